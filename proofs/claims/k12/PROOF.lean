import PyProof.Rows.All
import Wide.All
import OpenK.AllK
import Wide.FinOn
import Lean
import PyProof.EqAt
import PyProof.EqKinds
import PyProof.TupleCall
import KE.KRevIter
import PyProof.ExcInit
import PyProof.InstStoreFacts
import PyProof.NsDelKeeps
import PySem.Challenge.RW_ringwords_k12_texts_that_write_no_steps
set_option Elab.async false
set_option linter.all false
set_option maxRecDepth 100000
namespace L2
open PySem PySem.Spec PyProof.Rows

noncomputable abbrev Key := Sum Int Str
noncomputable def keyIs : Key → Value → Bool
  | .inl k, v => Value.isInt k v
  | .inr x, v => Value.isStrOf x v
noncomputable def keyH (w : World) : Key → Int
  | .inl k => hashInt k
  | .inr x => hashStr w x
theorem keyIs_shape : ∀ {k : Key} {v : Value}, keyIs k v = true → (∃ i t, k = Sum.inl i ∧ v = Value.int i t) ∨ (∃ x t, k = Sum.inr x ∧ v = Value.str x t)
  | .inl i, v, h => by
    obtain ⟨t, e⟩ := Value.isInt_shape (k := i) (v := v) h
    exact .inl ⟨i, t, rfl, e⟩
  | .inr x, v, h => by
    obtain ⟨t, e⟩ := Value.isStrOf_shape (x := x) (v := v) h
    exact .inr ⟨x, t, rfl, e⟩
theorem keyIs_int (i : Int) (t : Tok) : keyIs (.inl i) (.int i t) = true := by simp [keyIs, Value.isInt]
theorem keyIs_str (x : Str) (t : Tok) : keyIs (.inr x) (.str x t) = true := by simp [keyIs, Value.isStrOf]
theorem key_ll (a b : Int) : decide ((Sum.inl a : Key) = Sum.inl b) = (a == b) := by
  by_cases e : a = b
  · subst e; simp
  · have h : ¬ (Sum.inl a : Key) = Sum.inl b := fun q => e (Sum.inl.inj q)
    rw [decide_eq_false h]
    exact (beq_eq_false_iff_ne.mpr e).symm
theorem key_rr (a b : Str) : decide ((Sum.inr a : Key) = Sum.inr b) = decide (a = b) := by
  by_cases e : a = b
  · subst e; simp
  · have h : ¬ (Sum.inr a : Key) = Sum.inr b := fun q => e (Sum.inr.inj q)
    rw [decide_eq_false h, decide_eq_false e]
theorem key_lr (a : Int) (b : Str) : decide ((Sum.inl a : Key) = Sum.inr b) = false := decide_eq_false (fun q => nomatch q)
theorem key_rl (a : Str) (b : Int) : decide ((Sum.inr a : Key) = Sum.inl b) = false := decide_eq_false (fun q => nomatch q)

noncomputable def mixKind (prog : Program) (w : World) : PySem.KeyKind prog w Key where
  is := keyIs
  hash := keyH w
  inj := fun v a b ha hb => by
    rcases keyIs_shape ha with ⟨i, t, rfl, rfl⟩ | ⟨x, t, rfl, rfl⟩
    · rcases keyIs_shape hb with ⟨j, u, rfl, e⟩ | ⟨y, u, rfl, e⟩
      · injection e with e1 _; rw [e1]
      · exact nomatch e
    · rcases keyIs_shape hb with ⟨j, u, rfl, e⟩ | ⟨y, u, rfl, e⟩
      · exact nomatch e
      · injection e with e1 _; rw [e1]
  byValue := fun k v h => by
    rcases keyIs_shape h with ⟨i, t, rfl, rfl⟩ | ⟨x, t, rfl, rfl⟩ <;> rfl
  pyHash := fun hv h => by
    rcases keyIs_shape hv with ⟨i, t, rfl, rfl⟩ | ⟨x, t, rfl, rfl⟩
    · exact wpAny_pyHash_int h
    · exact wpAny_pyHash_str h
  eqBool := fun hu hv h => by
    rcases keyIs_shape hu with ⟨i, t, rfl, rfl⟩ | ⟨x, t, rfl, rfl⟩
    · rcases keyIs_shape hv with ⟨j, u, rfl, rfl⟩ | ⟨y, u, rfl, rfl⟩
      · rw [key_ll] at h; exact wpAny_eqBool_int h
      · rw [key_lr] at h; exact SeqAt.EqAt.int_str i t y u _ _ _ _ h
    · rcases keyIs_shape hv with ⟨j, u, rfl, rfl⟩ | ⟨y, u, rfl, rfl⟩
      · rw [key_rl] at h; exact SeqAt.EqAt.str_int x t j u _ _ _ _ h
      · rw [key_rr] at h; exact wpAny_eqBool_str h
  «strs» := fun k x t v h => by
    rcases keyIs_shape h with ⟨i, u, rfl, e⟩ | ⟨y, u, rfl, e⟩
    · exact nomatch e
    · injection e with e1 _
      subst e1
      cases v <;> rfl

theorem mixKind_int (prog : Program) (w : World) (i : Int) (t : Tok) : (mixKind prog w).is (.inl i) (.int i t) = true := keyIs_int i t
theorem mixKind_str (prog : Program) (w : World) (x : Str) (t : Tok) : (mixKind prog w).is (.inr x) (.str x t) = true := keyIs_str x t
end L2

namespace L2
open PySem PySem.Spec PyProof.Rows

inductive V where
  | non | bl (b : Bool) | int (i : Int) | str (x : Str) | byt (b : Array UInt8) | flt (b : UInt64) | ref (a : Addr) | ty (n : String)
  deriving DecidableEq

noncomputable def RelV : V → Value → Prop
  | .non, u => u = Value.none
  | .bl b, u => u = Value.bool b
  | .int i, u => ∃ t, u = Value.int i t
  | .str x, u => ∃ t, u = Value.str x t
  | .byt b, u => ∃ t, u = Value.bytes b t
  | .flt b, u => ∃ t, u = Value.float b t
  | .ref a, u => u = Value.ref a
  | .ty n, u => u = Value.type n

noncomputable abbrev Vals : List V → List Value → Prop := Paired RelV
theorem Vals.length {xs : List V} {us : List Value} (r : Vals xs us) : xs.length = us.length := Paired.length r
theorem Vals.get : ∀ {xs : List V} {us : List Value} {i : Nat} {x : V}, Vals xs us → xs[i]? = some x → ∃ u, us[i]? = some u ∧ RelV x u
  | _, _, _, _, .nil, e => by simp at e
  | _, _, 0, _, .cons r _, e => by simp at e; subst e; exact ⟨_, rfl, r⟩
  | _, _, i + 1, x, .cons _ t, e => by
    obtain ⟨u, h1, h2⟩ := Vals.get (i := i) (x := x) t (by simpa using e)
    exact ⟨u, by simpa using h1, h2⟩
theorem Vals.append : ∀ {xs ys : List V} {us ws : List Value}, Vals xs us → Vals ys ws → Vals (xs ++ ys) (us ++ ws)
  | _, _, _, _, .nil, s => s
  | _, _, _, _, .cons r t, s => .cons r (Vals.append t s)
theorem Vals.take : ∀ {xs : List V} {us : List Value} (n : Nat), Vals xs us → Vals (xs.take n) (us.take n)
  | _, _, 0, _ => .nil
  | _, _, _ + 1, .nil => .nil
  | _, _, n + 1, .cons r t => .cons r (Vals.take n t)
theorem Vals.drop : ∀ {xs : List V} {us : List Value} (n : Nat), Vals xs us → Vals (xs.drop n) (us.drop n)
  | _, _, 0, r => r
  | _, _, _ + 1, .nil => .nil
  | _, _, n + 1, .cons _ t => Vals.drop n t

noncomputable def RelO : Option V → Option Value → Prop
  | some v, some u => RelV v u
  | none, none => True
  | _, _ => False
noncomputable def KV {κ : Type} : List (κ × V) → List (κ × Value) → Prop := Paired fun (p : κ × V) (q : κ × Value) => p.1 = q.1 ∧ RelV p.2 q.2

noncomputable def kV : Key → V
  | .inl i => .int i
  | .inr x => .str x

inductive HO where
  | lst (xs : List V)
  | tup (xs : List V)
  | dK (kvs : List (Key × V)) | dT (kvs : List (List Key × V))
  | set (S : Int → Bool) (n : Nat)
  | ins (C dx : Addr) (fs : List (Str × V))
  | own (x : Addr)
  | xd (fs : List (Str × V))
  | met (f x : Addr)
  | rng (lo hi : Int)
  | frz (o : Obj) (u : HO)
  | tbl (ps : Array Value)
  | ext (φ : Heap → Prop)

noncomputable abbrev Hp := Addr → Option HO
noncomputable def upd (H : Hp) (a : Addr) (o : HO) : Hp := fun b => if b = a then some o else H b
theorem upd_same {H : Hp} {a : Addr} {o : HO} : upd H a o a = some o := by unfold upd; rw [if_pos rfl]
theorem upd_ne {H : Hp} {a b : Addr} {o : HO} (h : b ≠ a) : upd H a o b = H b := by unfold upd; rw [if_neg h]
theorem upd_upd {H : Hp} {a : Addr} {o u : HO} : upd (upd H a o) a u = upd H a u := by
  funext b; unfold upd; split <;> rfl
theorem ne_of {H : Hp} {a b : Addr} {o u : HO} (h : H a = some o) (h' : H b = some u) (d : o ≠ u) : a ≠ b := by
  intro e; subst e; rw [h] at h'; exact d (Option.some.inj h')
theorem ne_of_none {H : Hp} {a b : Addr} {o : HO} (h : H a = some o) (h' : H b = none) : a ≠ b := by
  intro e; subst e; rw [h] at h'; cases h'

section
variable (P : Program) (w : World)
noncomputable def ObjOk (H : Hp) (h : Heap) (a : Addr) : HO → Prop
  | .lst xs => xs.length ≤ sizeLine ∧ ∃ (its : List Value) (n : Nat), Vals xs its ∧ h.get? a = some { cls := .type "list", data := .seq its.toArray n }
  | .tup xs => xs.length ≤ sizeLine ∧ ∃ its : List Value, Vals xs its ∧ IsTup h a its.toArray
  | .dK kvs => kvs.length ≤ sizeLine ∧ (a == sysModules) = false ∧ ∃ vs, KV kvs vs ∧ h.DictOf (mixKind P w) a vs
  | .dT kvs => kvs.length ≤ sizeLine ∧ (a == sysModules) = false ∧ ∃ xs : List (List Key × Addr × Value),
      Paired (fun (p : List Key × V) (q : List Key × Addr × Value) => p.1 = q.1 ∧ H q.2.1 = some (.tup (p.1.map kV)) ∧ RelV p.2 q.2.2) kvs xs ∧
      ∃ o es ep, h.get? a = some o ∧ o.ExactDict ∧ o.data = .dict es ep ∧ es.toList = xs.map (entryOfKey (tupleKind (mixKind P w))) ∧ (xs.map (·.1)).Nodup
  | .set S n => h.SetOf (intKind P w) a S n
  | .ins C dx fs => H dx = some (.own a) ∧ fs.length ≤ 1000 ∧ dx ≠ a ∧ h.get? a = some (PySem.W.instObj C dx) ∧
      ∃ mA, h.Ns1 dx mA ∧ (∀ f, RelO (fs.lookup f) (mA f)) ∧ PySem.Within mA (fs.map (·.1))
  | .own _ => ∃ o, h.get? a = some o
  | .xd fs => ∃ mA, h.Ns1 a mA ∧ ∀ f, RelO (fs.lookup f) (mA f)
  | .rng lo hi => ∃ t u v, h.get? a = some { cls := .type "range", data := .fields #[.int lo t, .int hi u, .int 1 v] }
  | .frz o u => h.get? a = some o ∧ ObjOk H h a u
  | .tbl ps => h.get? a = some { cls := .none, data := .fields ps }
  | .met f x => h.get? a = some (PySem.W.methodObj (.ref f) (.ref x))
  | .ext φ => φ h ∧ (∃ o, h.get? a = some o) ∧ ∀ h1 h2 : Heap, φ h1 → (∀ o, h1.get? a = some o → h2.get? a = some o) → φ h2
noncomputable def HOk (H : Hp) (h : Heap) : Prop := ∀ a o, H a = some o → ObjOk P w H h a o
end

section
variable {P : Program} {w : World} {H H' : Hp} {h h' : Heap} {a : Addr} {o : HO}
theorem ObjOk.lt (x : ObjOk P w H h a o) : a < h.objs.size := by
  cases o with
  | lst xs => obtain ⟨_, _, _, _, e⟩ := x; exact Heap.lt_size e
  | tup xs => obtain ⟨_, _, _, p⟩ := x; exact p.lt
  | dK kvs => obtain ⟨_, _, _, _, o, _, _, e, _⟩ := x; exact Heap.lt_size e
  | dT kvs => obtain ⟨_, _, _, _, o, _, _, e, _⟩ := x; exact Heap.lt_size e
  | set S n => obtain ⟨o, _, _, _, e, _⟩ := x; exact Heap.lt_size e
  | ins C dx fs => obtain ⟨_, _, _, e, _⟩ := x; exact Heap.lt_size e
  | own y => obtain ⟨_, e⟩ := x; exact Heap.lt_size e
  | xd fs => obtain ⟨_, ⟨_, _, _, e, _⟩, _⟩ := x; exact Heap.lt_size e
  | rng lo hi => obtain ⟨_, _, _, e⟩ := x; exact Heap.lt_size e
  | frz ob u => obtain ⟨e, _⟩ := x; exact Heap.lt_size e
  | tbl ps => exact Heap.lt_size (show h.get? a = some _ from x)
  | met f y => exact Heap.lt_size (show h.get? a = some _ from x)
  | ext φ => obtain ⟨_, ⟨_, e⟩, _⟩ := x; exact Heap.lt_size e
theorem Paired.mapP {α β : Type} {F G : α → β → Prop} : ∀ {l₁ : List α} {l₂ : List β}, Paired F l₁ l₂ → (∀ a b, F a b → G a b) → Paired G l₁ l₂
  | _, _, .nil, _ => .nil
  | _, _, .cons r t, f => .cons (f _ _ r) (Paired.mapP t f)
theorem ObjOk.stay (x : ObjOk P w H h a o) (k : ∀ b u, (b = a ∨ H b = some (.own a)) → h.get? b = some u → h'.get? b = some u)
    (ho : ∀ b, H b = some (.own a) → H' b = some (.own a)) (ht : ∀ b xs, H b = some (.tup xs) → H' b = some (.tup xs)) : ObjOk P w H' h' a o := by
  induction o with
  | lst xs => obtain ⟨z, its, n, r, e⟩ := x; exact ⟨z, its, n, r, k _ _ (.inl rfl) e⟩
  | tup xs => obtain ⟨z, its, r, ob, e, c⟩ := x; exact ⟨z, its, r, ob, k _ _ (.inl rfl) e, c⟩
  | dK kvs => obtain ⟨z, y, vs, r, ob, es, ep, e, c⟩ := x; exact ⟨z, y, vs, r, ob, es, ep, k _ _ (.inl rfl) e, c⟩
  | dT kvs =>
    obtain ⟨z, y, xs, r, ob, es, ep, e, c⟩ := x
    exact ⟨z, y, xs, Paired.mapP r fun p q z => ⟨z.1, ht _ _ z.2.1, z.2.2⟩, ob, es, ep, k _ _ (.inl rfl) e, c⟩
  | set S n => obtain ⟨ob, es, ep, t, e, c⟩ := x; exact ⟨ob, es, ep, t, k _ _ (.inl rfl) e, c⟩
  | ins C dx fs =>
    obtain ⟨d, z, ne, e, mA, ⟨od, es, ep, e2, c⟩, r⟩ := x
    exact ⟨ho _ d, z, ne, k _ _ (.inl rfl) e, mA, ⟨od, es, ep, k _ _ (.inr d) e2, c⟩, r⟩
  | own y => obtain ⟨ob, e⟩ := x; exact ⟨ob, k _ _ (.inl rfl) e⟩
  | xd fs => obtain ⟨mA, ⟨od, es, ep, e, c⟩, r⟩ := x; exact ⟨mA, ⟨od, es, ep, k _ _ (.inl rfl) e, c⟩, r⟩
  | rng lo hi => obtain ⟨t, u, v, e⟩ := x; exact ⟨t, u, v, k _ _ (.inl rfl) e⟩
  | frz ob u ih => obtain ⟨e, q⟩ := x; exact ⟨k _ _ (.inl rfl) e, ih q⟩
  | tbl ps =>
    have e : h.get? a = some { cls := .none, data := .fields ps } := x
    show h'.get? a = some { cls := .none, data := .fields ps }
    exact k a _ (.inl rfl) e
  | met f y =>
    have e : h.get? a = some (PySem.W.methodObj (.ref f) (.ref y)) := x
    show h'.get? a = some (PySem.W.methodObj (.ref f) (.ref y))
    exact k a _ (.inl rfl) e
  | ext φ => obtain ⟨p, ⟨o, e⟩, st⟩ := x; exact ⟨st _ _ p fun o q => k _ _ (.inl rfl) q, ⟨o, k _ _ (.inl rfl) e⟩, st⟩
theorem HOk.lt (x : HOk P w H h) (e : H a = some o) : a < h.objs.size := (x a o e).lt
theorem HOk.fresh (x : HOk P w H h) (e : h.objs.size ≤ a) : H a = none := by
  cases q : H a with
  | none => rfl
  | some u => exact absurd (Nat.lt_of_lt_of_le (x.lt q) e) (Nat.lt_irrefl _)
theorem HOk.kept (x : HOk P w H h) (k : ∀ b u, h.get? b = some u → h'.get? b = some u) : HOk P w H h' := fun a o e =>
  (x a o e).stay (fun b u _ q => k b u q) (fun _ q => q) fun _ _ q => q
theorem HOk.laid (x : HOk P w H h) (k : ∀ b u, h.get? b = some u → h'.get? b = some u) (hp : h.objs.size ≤ a) (new : ObjOk P w (upd H a o) h' a o) : HOk P w (upd H a o) h' := fun b u e => by
  have hn := x.fresh hp
  by_cases hb : b = a
  · subst hb; rw [upd_same] at e; cases e; exact new
  · rw [upd_ne hb] at e
    exact (x b u e).stay (fun c v _ q => k c v q) (fun c q => by rw [upd_ne (ne_of_none q hn)]; exact q) fun c xs q => by rw [upd_ne (ne_of_none q hn)]; exact q
end

noncomputable def Rd (H : Hp) (a : Addr) (u : HO) : Prop := H a = some u ∨ ∃ o, H a = some (.frz o u)
theorem Rd.ok {P : Program} {w : World} {H : Hp} {h : Heap} {a : Addr} {u : HO} (r : Rd H a u) (x : HOk P w H h) : ObjOk P w H h a u := by
  rcases r with r | ⟨o, r⟩
  · exact x a u r
  · obtain ⟨_, q⟩ := x a _ r
    exact q
noncomputable def Mut : Option HO → Prop
  | some (.lst _) => True
  | some (.dK _) => True
  | some (.dT _) => True
  | some (.set _ _) => True
  | some (.ins _ _ _) => True
  | some (.ext _) => True
  | _ => False
section
variable {P : Program} {w : World} {H : Hp} {h h' : Heap} {x e : Addr} {o' : HO}
theorem HOk.write (ok : HOk P w H h) (mu : Mut (H x)) (he : e = x ∨ H e = some (.own x)) (k : ∀ b u, b ≠ e → h.get? b = some u → h'.get? b = some u) (heo : ∃ u, h'.get? e = some u)
    (new : ObjOk P w (upd H x o') h' x o') : HOk P w (upd H x o') h' := fun b u q => by
  have nown : ∀ c y, H c = some (.own y) → c ≠ x := fun c y r z => by subst z; rw [r] at mu; exact mu
  have ntup : ∀ c xs, H c = some (.tup xs) → c ≠ x := fun c xs r z => by subst z; rw [r] at mu; exact mu
  by_cases hb : b = x
  · subst hb; rw [upd_same] at q; cases q; exact new
  · rw [upd_ne hb] at q
    by_cases hbe : b = e
    · have q' : H b = some (.own x) := by
        rcases he with z | z
        · exact absurd (hbe.trans z) hb
        · rw [hbe]; exact z
      rw [q] at q'; cases q'
      obtain ⟨v, hv⟩ := heo
      exact ⟨v, by rw [hbe]; exact hv⟩
    · refine (ok b u q).stay (fun c v hc r => k c v ?_ r) (fun c r => by rw [upd_ne (nown c b r)]; exact r) fun c xs r => by rw [upd_ne (ntup c xs r)]; exact r
      rcases hc with rfl | hc
      · exact hbe
      · rintro rfl
        rcases he with z | z
        · exact nown c b hc z
        · rw [hc] at z; cases z; exact hb rfl
end

structure Un (fs ex : List Addr) (H H' : Hp) (h h' : Heap) : Prop where
  keep : ∀ b o, h.get? b = some o → H b = none → b ∉ fs → b ∉ ex → h'.get? b = some o
  slot : ∀ b o, h.get? b = some o → H b = none → b ∈ fs → b ∉ ex → ∃ sl, h'.get? b = some { o with slots := sl }
  free : ∀ b o, h.get? b = some o → H b = none → b ∉ ex → H' b = none
  there : ∀ b o, h.get? b = some o → b ∉ ex → ∃ o', h'.get? b = some o'
  tups : ∀ b xs, H b = some (.tup xs) → H' b = some (.tup xs)
  frzs : ∀ b o u, H b = some (.frz o u) → H' b = some (.frz o u)
  tbls : ∀ b ps, H b = some (.tbl ps) → ∃ more, H' b = some (.tbl (ps ++ more))
section
variable {fs fs' ex ex' : List Addr} {H H1 H2 : Hp} {h h1 h2 h' : Heap} {a x e : Addr} {o : HO}
theorem Un.any (u : Un fs ex H H1 h h1) {b : Addr} {ob : Obj} (q : h.get? b = some ob) (n : H b = none) (hx : b ∉ ex) : ∃ sl, h1.get? b = some { ob with slots := sl } := by
  by_cases hb : b ∈ fs
  · exact u.slot b ob q n hb hx
  · exact ⟨ob.slots, u.keep b ob q n hb hx⟩
theorem Un.kept (k : ∀ b u, h.get? b = some u → h'.get? b = some u) : Un fs ex H H h h' :=
  ⟨fun b ob q _ _ _ => k b ob q, fun b ob q _ _ _ => ⟨ob.slots, k b ob q⟩, fun _ _ _ n _ => n, fun b ob q _ => ⟨ob, k b ob q⟩, fun _ _ q => q, fun _ _ _ q => q, fun _ ps q => ⟨#[], by rw [q]; simp⟩⟩
theorem Un.refl : Un fs ex H H h h := Un.kept fun _ _ q => q
theorem Un.laid (k : ∀ b u, h.get? b = some u → h'.get? b = some u) (hp : h.objs.size ≤ a) (hn : H a = none) : Un fs ex H (upd H a o) h h' where
  keep := fun b u q _ _ _ => k b u q
  slot := fun b u q _ _ _ => ⟨u.slots, k b u q⟩
  free := fun b u q n _ => by rw [upd_ne (Nat.ne_of_lt (Nat.lt_of_lt_of_le (Heap.lt_size q) hp))]; exact n
  there := fun b u q _ => ⟨u, k b u q⟩
  tups := fun b xs q => by rw [upd_ne (ne_of_none q hn)]; exact q
  frzs := fun b u xs q => by rw [upd_ne (ne_of_none q hn)]; exact q
  tbls := fun b ps q => ⟨#[], by rw [upd_ne (ne_of_none q hn), q]; simp⟩
theorem Un.write (mu : Mut (H x)) (he : e = x ∨ H e = some (.own x)) (k : ∀ b u, b ≠ e → h.get? b = some u → h'.get? b = some u) (heo : ∃ u, h'.get? e = some u) : Un fs ex H (upd H x o) h h' := by
  have hx : ∀ b, H b = none → b ≠ x := fun b n z => by subst z; rw [n] at mu; exact mu
  have hb : ∀ b, H b = none → b ≠ e := fun b n z => by
    subst z
    rcases he with r | r
    · exact hx b n r
    · rw [n] at r; cases r
  have hm : ∀ b u, H b = some u → ¬ Mut (some u) → b ≠ x := fun b u q nm z => by subst z; rw [q] at mu; exact nm mu
  refine ⟨fun b u q n _ _ => k b u (hb b n) q, fun b u q n _ _ => ⟨u.slots, k b u (hb b n) q⟩, fun b u q n _ => by rw [upd_ne (hx b n)]; exact n, fun b u q _ => ?_,
    fun b xs q => by rw [upd_ne (hm b _ q fun z => z)]; exact q, fun b u xs q => by rw [upd_ne (hm b _ q fun z => z)]; exact q, fun b ps q => ⟨#[], by rw [upd_ne (hm b _ q fun z => z), q]; simp⟩⟩
  by_cases hbe : b = e
  · subst hbe; exact heo
  · exact ⟨u, k b u hbe q⟩
end

noncomputable def trk (h : Heap) (H : Hp) : List Addr := (List.range h.objs.size).filter fun a => (H a).isSome
noncomputable def hidT (h : Heap) (H : Hp) : Heap := PySem.W.hideAll h (trk h H)
theorem hidT_size (h : Heap) (H : Hp) : (hidT h H).objs.size = h.objs.size := PySem.W.hideAll_size _ _
theorem hidT_get {h : Heap} {H : Hp} {b : Addr} {o : Obj} (e : h.get? b = some o) (n : H b = none) : (hidT h H).get? b = some o :=
  PySem.W.hideAll_get _ e fun hm => by
    have q : (H b).isSome = true := (List.mem_filter.mp hm).2
    rw [n] at q; simp at q
theorem of_hidT {h : Heap} {H : Hp} {b : Addr} {o : Obj} (e : (hidT h H).get? b = some o) : h.get? b = some o ∧ H b = none := by
  have e' : h.get? b = some o := PySem.W.of_hideAll (trk h H) e
  refine ⟨e', ?_⟩
  cases q : H b with
  | none => rfl
  | some x =>
    have hm : b ∈ trk h H := List.mem_filter.mpr ⟨List.mem_range.mpr (Heap.lt_size e'), by simp [q]⟩
    have z : (hidT h H).get? b = none := PySem.W.hideAll_none (trk h H) hm
    rw [z] at e; cases e

noncomputable def allNews (g h : Heap) (L : Addr) : List (Addr × Obj) := (List.range h.objs.size).filterMap fun a => if a = L ∨ (g.get? a).isSome = true then none else (h.get? a).map fun o => (a, o)
noncomputable def rest (g h : Heap) (L d : Addr) : List (Addr × Obj) := (allNews g h L).filter fun p => decide (p.1 ≠ d)
end L2

namespace L2
open PySem PySem.Spec PyProof.Rows

structure Mod (K : PySem.W.Frag) (mg : Str → Option Value) (base : Heap) : Prop where
  kin : K.In base
  glob : base.Ns mainGlobals mg
  blt : ∃ mb, base.Ns builtinsNs mb ∧ ∀ x : Str, x ≠ "__name__" → mb x = bootBuiltins x
  nolimit : base.NoLimit

/-- the context: a def's body (or a comprehension's block) running. base: fixed through the whole law; s₀, H₀: the entry; outer: the frames whose slots others may change (a def's callers); stack: all frames that run;
   ex: iterators that were made ahead of the entry and are walked here (a comprehension's); fn: the names whose cells were made at the entry (a def: all; a comprehension's block: its own); calm: not within an except suite; pn: pins that every state bears; xe: what is wanted of an exception that leaves the code -/
structure Cx where
  prog : Program
  w : World
  K : PySem.W.Frag
  mg : Str → Option Value
  base : Heap
  A : Around
  N : List Str
  s₀ : Shared
  H₀ : Hp
  env : Env
  outer : List Env
  stack : List Env
  ex : List Addr
  fn : Str → Bool
  calm : Bool
  pn : List (Addr × Obj)
  xe : Value → Shared → Prop
noncomputable def frs (l : List Env) : List Addr := l.filterMap (·.frame)
noncomputable abbrev Cx.fs (X : Cx) : List Addr := frs X.outer

noncomputable def Vis (sc : Scope) (x : Str) : Prop := sc.names.lookup x = some .local ∨ sc.names.lookup x = some .cell ∨ sc.names.lookup x = some .free
noncomputable def Loc (sc : Scope) (x : Str) : Prop := sc.names.lookup x = some .local ∨ sc.names.lookup x = some .cell
noncomputable def Look (env : Env) (h : Heap) (m : Str → Option Value) (x : Str) (u : Value) : Prop :=
  (env.kindOf x = some .local ∧ m x = some u) ∨ ((env.kindOf x = some .cell ∨ env.kindOf x = some .free) ∧ ∃ c, env.cells.lookup x = some c ∧ h.IsCell c (some u))

structure Cx.Ok (X : Cx) : Prop where
  mod : Mod X.K X.mg X.base
  kind : X.env.scope.kind = .function
  glob : X.env.globals = mainGlobals
  blt : X.env.builtins = builtinsNs
  above : X.s₀.heap.objs.size ≤ X.env.locals
  inj : ∀ x y c, X.env.cells.lookup x = some c → X.env.cells.lookup y = some c → x = y
  has : ∀ x, (X.env.kindOf x = some .cell ∨ X.env.kindOf x = some .free) → ∃ c, X.env.cells.lookup x = some c
  cab : ∀ x c, X.fn x = true → X.env.cells.lookup x = some c → X.s₀.heap.objs.size ≤ c
  hd : X.calm = true → X.A.handled = none
  frames : X.A.frames = some X.stack
  stk : X.stack = X.outer ∨ (X.stack = X.env :: X.outer ∧ X.env.frame = some X.env.locals)
  exf : ∀ b ∈ X.ex, b ≠ X.env.locals ∧ ∀ x c, X.env.cells.lookup x = some c → c ≠ b
  bs : ∀ b o, X.base.get? b = some o → X.s₀.heap.get? b = some o ∧ X.H₀ b = none
  bsz : X.base.objs.size ≤ X.s₀.heap.objs.size
  noex : ∀ b o, X.base.get? b = some o → b ∉ X.ex
  exfs : ∀ b ∈ X.ex, b ∉ X.fs
  funs : X.s₀.heap.FunFrames X.base X.outer
  frf : ∀ b ∈ X.fs, X.H₀ b = none

structure Inv (X : Cx) (pins : List (Addr × Obj)) (σ : List (Option V)) (H : Hp) (s : Shared) : Prop where
  ok : X.Ok
  os : s.os = X.s₀.os
  bare : AllBare s.gens
  base : Un X.fs X.ex X.H₀ H X.s₀.heap s.heap
  loc : ∃ m, s.heap.Ns X.env.locals m ∧ ∀ (i : Nat) (x : Str) (v : V), X.N[i]? = some x → σ[i]? = some (some v) → Vis X.env.scope x → ∃ u, RelV v u ∧ Look X.env s.heap m x u
  cell : ∀ x c, X.env.cells.lookup x = some c → ∃ v, s.heap.IsCell c v
  free : H X.env.locals = none
  freeC : ∀ x c, X.env.cells.lookup x = some c → H c = none
  pin : ∀ p ∈ X.pn ++ pins, s.heap.get? p.1 = some p.2 ∧ H p.1 = none ∧ p.1 ≠ X.env.locals ∧ p.1 ∉ X.fs ∧ ∀ v, p.2.data ≠ .cell v
  hok : HOk X.prog X.w H s.heap
  len : σ.length = X.N.length

section
variable {X : Cx} {pins : List (Addr × Obj)} {σ : List (Option V)} {H H' : Hp} {s : Shared} {h' : Heap}

theorem Cx.Ok.nofr (ok : X.Ok) {b : Addr} {o : Obj} (e : X.base.get? b = some o) : b ∉ X.fs := fun hb => by
  have := (ok.funs.mem hb).1
  rw [e] at this; cases this
theorem Inv.bs (I : Inv X pins σ H s) : ∀ b o, X.base.get? b = some o → s.heap.get? b = some o ∧ H b = none := fun b o e =>
  ⟨I.base.keep b o (I.ok.bs b o e).1 (I.ok.bs b o e).2 (I.ok.nofr e) (I.ok.noex b o e), I.base.free b o (I.ok.bs b o e).1 (I.ok.bs b o e).2 (I.ok.noex b o e)⟩
theorem Inv.bk (I : Inv X pins σ H s) : ∀ b o, X.base.get? b = some o → s.heap.get? b = some o := fun b o e => (I.bs b o e).1
theorem Inv.mod (I : Inv X pins σ H s) : Mod X.K X.mg X.base := I.ok.mod
theorem Inv.kIn (I : Inv X pins σ H s) : X.K.In s.heap := I.ok.mod.kin.keeps I.bk
theorem Inv.fr (I : Inv X pins σ H s) : ∃ m, Fr X.base X.env.locals s.heap m :=
  let ⟨m, hn, _⟩ := I.loc
  ⟨m, hn, I.bk, Nat.le_trans I.ok.bsz I.ok.above⟩
theorem Inv.lt (I : Inv X pins σ H s) : X.env.locals < s.heap.objs.size := let ⟨_, hn, _⟩ := I.loc; hn.lt
theorem Inv.sz (I : Inv X pins σ H s) : X.s₀.heap.objs.size ≤ s.heap.objs.size := Nat.le_trans I.ok.above (Nat.le_of_lt I.lt)
theorem Inv.nofs (I : Inv X pins σ H s) {a : Addr} (h : s.heap.objs.size ≤ a) : a ∉ X.fs := fun hb => by
  obtain ⟨_, o, ho, _⟩ := I.ok.funs.mem hb
  exact absurd (Nat.lt_of_lt_of_le (Heap.lt_size ho) (Nat.le_trans I.sz h)) (Nat.lt_irrefl _)
theorem Inv.cne (I : Inv X pins σ H s) : ∀ x c, X.env.cells.lookup x = some c → c ≠ X.env.locals := fun x c e z => by
  obtain ⟨v, o, ho, hd⟩ := I.cell x c e
  obtain ⟨m, ⟨o', es, ep, ho', hd', _⟩, _⟩ := I.loc
  rw [z, ho'] at ho; cases ho; rw [hd'] at hd; cases hd
theorem Inv.funs (I : Inv X pins σ H s) : s.heap.FunFrames X.base X.outer := by
  have all : ∀ (l : List Env), (∀ b ∈ frs l, b ∈ X.fs) → X.s₀.heap.FunFrames X.base l → s.heap.FunFrames X.base l := by
    intro l
    induction l with
    | nil => intro _ _; trivial
    | cons env r ih =>
      intro hs hl
      obtain ⟨hk, ⟨L, o, hf, hn, ho, hd⟩, hr⟩ := hl
      have hL : L ∈ X.fs := hs L (by unfold frs; rw [List.filterMap_cons, hf]; exact List.mem_cons_self)
      obtain ⟨sl, e⟩ := I.base.slot L o ho (I.ok.frf L hL) hL fun z => I.ok.exfs L z hL
      exact ⟨hk, ⟨L, _, hf, hn, e, hd⟩, ih (fun b hb => hs b (by unfold frs; rw [List.filterMap_cons, hf]; exact List.mem_cons_of_mem _ hb)) hr⟩
  exact all X.outer (fun _ hb => hb) I.ok.funs

theorem Inv.stack (I : Inv X pins σ H s) : s.heap.FunFrames X.base X.stack := by
  rcases I.ok.stk with e | ⟨e, hf⟩
  · rw [e]; exact I.funs
  · rw [e]
    obtain ⟨m, hn, _⟩ := I.loc
    refine .cons (by rw [I.ok.kind]; decide) hf hn ?_ I.funs
    exact Heap.get?_none_of_le (Nat.le_trans I.ok.bsz I.ok.above)
theorem Inv.stkSub (I : Inv X pins σ H s) : ∀ b ∈ frs X.stack, b ∈ X.env.locals :: X.fs := fun b hb => by
  rcases I.ok.stk with e | ⟨e, hf⟩
  · rw [e] at hb; exact List.mem_cons_of_mem _ hb
  · rw [e] at hb
    unfold frs at hb
    rw [List.filterMap_cons, hf] at hb
    exact hb
theorem Inv.stkFree (I : Inv X pins σ H s) : ∀ b ∈ frs X.stack, H b = none := fun b hb => by
  rcases List.mem_cons.mp (I.stkSub b hb) with e | hb
  · rw [e]; exact I.free
  · obtain ⟨_, o, ho, _⟩ := I.ok.funs.mem hb
    exact I.base.free b o ho (I.ok.frf b hb) fun z => I.ok.exfs b z hb

theorem Inv.step {g' : Array GenState} {t' : Nat} {d' : Drawn} {ch : List Addr} (I : Inv X pins σ H s)
    (hch : ∀ b ∈ ch, (b ∈ X.ex ∨ X.s₀.heap.objs.size ≤ b) ∧ b ≠ X.env.locals ∧ (∀ x c, X.env.cells.lookup x = some c → c ≠ b) ∧ ∀ p ∈ X.pn ++ pins, p.1 ≠ b)
    (keep : ∀ b o, b ≠ X.env.locals → b ∉ X.fs → b ∉ ch → s.heap.get? b = some o → H b = none → h'.get? b = some o)
    (slot : ∀ b o, b ≠ X.env.locals → b ∈ X.fs → b ∉ ch → s.heap.get? b = some o → H b = none → ∃ sl, h'.get? b = some { o with slots := sl }) (free : ∀ b o, b ∉ ch → s.heap.get? b = some o → H b = none → H' b = none)
    (there : ∀ b o, b ∉ ch → s.heap.get? b = some o → ∃ o', h'.get? b = some o')
    (tups : ∀ b xs, H b = some (.tup xs) → H' b = some (.tup xs)) (frzs : ∀ b o u, H b = some (.frz o u) → H' b = some (.frz o u)) (tbls : ∀ b ps, H b = some (.tbl ps) → ∃ more, H' b = some (.tbl (ps ++ more)))
    (ns : ∀ m, s.heap.Ns X.env.locals m → h'.Ns X.env.locals m) (hok : HOk X.prog X.w H' h') (hg : AllBare g') :
    Inv X pins σ H' { s with heap := h', gens := g', drawn := d', toks := t' } := by
  have neL : ∀ b o, X.s₀.heap.get? b = some o → b ≠ X.env.locals := fun b o e => Nat.ne_of_lt (Nat.lt_of_lt_of_le (Heap.lt_size e) I.ok.above)
  have neC : ∀ b o, X.s₀.heap.get? b = some o → b ∉ X.ex → b ∉ ch := fun b o e hx hb => by
    rcases (hch b hb).1 with z | z
    · exact hx z
    · exact absurd (Nat.lt_of_lt_of_le (Heap.lt_size e) z) (Nat.lt_irrefl _)
  have cellK : ∀ x c, X.env.cells.lookup x = some c → ∀ v, s.heap.IsCell c v → h'.IsCell c v := fun x c e v ⟨o, ho, hd⟩ => by
    have nch : c ∉ ch := fun z => (hch c z).2.2.1 x c e rfl
    by_cases hc : c ∈ X.fs
    · obtain ⟨sl, q⟩ := slot c o (I.cne x c e) hc nch ho (I.freeC x c e)
      exact ⟨_, q, hd⟩
    · exact ⟨o, keep c o (I.cne x c e) hc nch ho (I.freeC x c e), hd⟩
  refine ⟨I.ok, I.os, hg, ⟨fun b o e n hb hx => ?_, fun b o e n hb hx => ?_, fun b o e n hx => ?_, fun b o e hx => ?_, fun b xs e => tups b xs (I.base.tups b xs e), fun b o xs e => frzs b o xs (I.base.frzs b o xs e), fun b ps e => ?_⟩, ?_, fun x c e => ?_, ?_, fun x c e => ?_, fun p hp => ?_, hok, I.len⟩
  · exact keep b o (neL b o e) hb (neC b o e hx) (I.base.keep b o e n hb hx) (I.base.free b o e n hx)
  · obtain ⟨sl, e1⟩ := I.base.slot b o e n hb hx
    obtain ⟨sl', e2⟩ := slot b _ (neL b o e) hb (neC b o e hx) e1 (I.base.free b o e n hx)
    exact ⟨sl', e2⟩
  · obtain ⟨o', e1⟩ := I.base.there b o e hx
    exact free b o' (neC b o e hx) e1 (I.base.free b o e n hx)
  · obtain ⟨o', e1⟩ := I.base.there b o e hx
    exact there b o' (neC b o e hx) e1
  · obtain ⟨m1, e1⟩ := I.base.tbls b ps e
    obtain ⟨m2, e2⟩ := tbls b _ e1
    exact ⟨m1 ++ m2, by rw [e2, Array.append_assoc]⟩
  · obtain ⟨m, hn, hl⟩ := I.loc
    refine ⟨m, ns m hn, fun i x v e1 e2 e3 => ?_⟩
    obtain ⟨u, r, l⟩ := hl i x v e1 e2 e3
    refine ⟨u, r, ?_⟩
    rcases l with l | ⟨k, c, e, z⟩
    · exact .inl l
    · exact .inr ⟨k, c, e, cellK x c e _ z⟩
  · obtain ⟨v, z⟩ := I.cell x c e
    exact ⟨v, cellK x c e v z⟩
  · obtain ⟨m, ⟨o, _, _, ho, _⟩, _⟩ := I.loc
    exact free _ o (fun z => (hch _ z).2.1 rfl) ho I.free
  · obtain ⟨v, o, ho, hd⟩ := I.cell x c e
    exact free c o (fun z => (hch c z).2.2.1 x c e rfl) ho (I.freeC x c e)
  · obtain ⟨e, n, ne, nf, d⟩ := I.pin p hp
    have nch : p.1 ∉ ch := fun z => (hch p.1 z).2.2.2 p hp rfl
    exact ⟨keep p.1 p.2 ne nf nch e n, free p.1 p.2 nch e n, ne, nf, d⟩
theorem Inv.un {t' : Nat} (I : Inv X pins σ H s) (u : Un X.fs [] H H' s.heap h') (hok : HOk X.prog X.w H' h') : Inv X pins σ H' { s with heap := h', toks := t' } := by
  obtain ⟨m, ⟨o, es, ep, ho, r⟩, _⟩ := id I.loc
  obtain ⟨sl, hL⟩ := u.any ho I.free (by simp)
  exact I.step (g' := s.gens) (d' := s.drawn) (ch := []) (fun _ z => nomatch z) (fun b o _ hb _ e n => u.keep b o e n hb (by simp)) (fun b o _ hb _ e n => u.slot b o e n hb (by simp)) (fun b o _ e n => u.free b o e n (by simp)) (fun b o _ e => u.there b o e (by simp)) u.tups u.frzs u.tbls (fun m' hm => by
    obtain ⟨o', es', ep', ho', r'⟩ := hm
    rw [ho] at ho'; cases ho'
    exact ⟨_, es', ep', hL, r'⟩) hok I.bare
theorem Inv.call {g' : Array GenState} {t' : Nat} {d' : Drawn} {ch : List Addr} (I : Inv X pins σ H s) (u : Un (frs X.stack) ch H H' s.heap h') (hok : HOk X.prog X.w H' h') (hg : AllBare g')
    (hch : ∀ b ∈ ch, (b ∈ X.ex ∨ X.s₀.heap.objs.size ≤ b) ∧ b ≠ X.env.locals ∧ (∀ x c, X.env.cells.lookup x = some c → c ≠ b) ∧ ∀ p ∈ X.pn ++ pins, p.1 ≠ b) :
    Inv X pins σ H' { s with heap := h', gens := g', drawn := d', toks := t' } := by
  obtain ⟨m, ⟨o, es, ep, ho, r⟩, _⟩ := id I.loc
  obtain ⟨sl, hL⟩ := u.any ho I.free fun z => (hch _ z).2.1 rfl
  exact I.step (ch := ch) hch (fun b o hL hb hc e n => u.keep b o e n (fun z => (List.mem_cons.mp (I.stkSub b z)).elim hL hb) hc) (fun b o _ _ hc e n => u.any e n hc) (fun b o hc e n => u.free b o e n hc) (fun b o hc e => u.there b o e hc) u.tups u.frzs u.tbls (fun m' hm => by
    obtain ⟨o', es', ep', ho', r'⟩ := hm
    rw [ho] at ho'; cases ho'
    exact ⟨_, es', ep', hL, r'⟩) hok hg
theorem Inv.turned {t' : Nat} {it : Addr} (I : Inv X pins σ H s) (k : ∀ b o, b ≠ it → s.heap.get? b = some o → h'.get? b = some o) (hn : H it = none) (hL : it ≠ X.env.locals)
    (h1 : it ∈ X.ex ∨ X.s₀.heap.objs.size ≤ it) (h2 : ∀ x c, X.env.cells.lookup x = some c → c ≠ it) (h3 : ∀ p ∈ X.pn ++ pins, p.1 ≠ it) : Inv X pins σ H { s with heap := h', toks := t' } := by
  have nit : ∀ b u, H b = some u → b ≠ it := fun b u e z => by rw [z, hn] at e; cases e
  refine I.step (g' := s.gens) (d' := s.drawn) (ch := [it]) (fun b hb => ?_) (fun b o _ _ hc e _ => k b o (fun z => hc (by simp [z])) e) (fun b o _ _ hc e _ => ⟨o.slots, k b o (fun z => hc (by simp [z])) e⟩) (fun _ _ _ _ n => n)
    (fun b o hc e => ⟨o, k b o (fun z => hc (by simp [z])) e⟩) (fun _ _ e => e) (fun _ _ _ e => e) (fun b ps e => ⟨#[], by rw [e]; simp⟩) (fun m hm => ?_) (fun b u e => ?_) I.bare
  · have e : b = it := by simpa using hb
    subst e
    exact ⟨h1, hL, h2, h3⟩
  · obtain ⟨o, es, ep, ho, r⟩ := hm
    exact ⟨o, es, ep, k _ o (Ne.symm hL) ho, r⟩
  · refine (I.hok b u e).stay (fun c v hc q => k c v ?_ q) (fun _ q => q) fun _ _ q => q
    rcases hc with z | z
    · rw [z]; exact nit b u e
    · exact nit c _ z
theorem Inv.tok (I : Inv X pins σ H s) (t : Nat) : Inv X pins σ H { s with toks := t } := I.un (h' := s.heap) (t' := t) Un.refl I.hok
theorem Inv.kept {t' : Nat} (I : Inv X pins σ H s) (k : ∀ b u, s.heap.get? b = some u → h'.get? b = some u) : Inv X pins σ H { s with heap := h', toks := t' } := I.un (Un.kept k) (I.hok.kept k)
theorem Inv.laid {a : Addr} {o : HO} {t' : Nat} (I : Inv X pins σ H s) (k : ∀ b u, s.heap.get? b = some u → h'.get? b = some u) (hp : s.heap.objs.size ≤ a) (new : ObjOk X.prog X.w (upd H a o) h' a o) :
    Inv X pins σ (upd H a o) { s with heap := h', toks := t' } := I.un (Un.laid k hp (I.hok.fresh hp)) (I.hok.laid k hp new)
theorem Inv.write {x e : Addr} {o : HO} {t' : Nat} (I : Inv X pins σ H s) (mu : Mut (H x)) (he : e = x ∨ H e = some (.own x)) (k : ∀ b u, b ≠ e → s.heap.get? b = some u → h'.get? b = some u) (heo : ∃ u, h'.get? e = some u)
    (new : ObjOk X.prog X.w (upd H x o) h' x o) : Inv X pins σ (upd H x o) { s with heap := h', toks := t' } := I.un (Un.write mu he k heo) (I.hok.write mu he k heo new)
theorem Inv.pins_of {pins' : List (Addr × Obj)} (I : Inv X pins σ H s) (h : ∀ p ∈ pins', s.heap.get? p.1 = some p.2 ∧ H p.1 = none ∧ p.1 ≠ X.env.locals ∧ p.1 ∉ X.fs ∧ ∀ v, p.2.data ≠ .cell v) : Inv X pins' σ H s :=
  ⟨I.ok, I.os, I.bare, I.base, I.loc, I.cell, I.free, I.freeC, fun p hp => (List.mem_append.mp hp).elim (fun z => I.pin p (List.mem_append_left _ z)) (h p), I.hok, I.len⟩

theorem nodup_ix {N : List Str} (hN : N.Nodup) {i j : Nat} {x : Str} (a : N[i]? = some x) (b : N[j]? = some x) : i = j := by
  obtain ⟨h1, e1⟩ := List.getElem?_eq_some_iff.mp a
  obtain ⟨h2, e2⟩ := List.getElem?_eq_some_iff.mp b
  exact (List.getElem_inj hN).mp (e1.trans e2.symm)

theorem store_ok2 {M : Model} {A : Around} {E : Value → Shared → Prop} {i : Nat} {x : Str} {v : V} {u : Value} {Q : Unit → Shared → Prop} (I : Inv X pins σ H s) (hN : X.N.Nodup) (hi : X.N[i]? = some x) (hx : Loc X.env.scope x) (r : RelV v u)
    (h : ∀ s', Inv X pins (σ.set i (some v)) H s' → (∃ a, Heap.SameBut a s.heap s'.heap ∧ (a = X.env.locals ∨ X.env.cells.lookup x = some a)) → Q () s') (hf : X.fn x = true ∨ X.env.scope.names.lookup x = some .local := by first | exact .inl rfl | exact .inr rfl | assumption) : wpAny M A (storeName X.env x u) Q E s := by
  obtain ⟨m, hn, hl⟩ := id I.loc
  have hcls : (X.env.scope.kind == .class || (X.env.scope.kind == .module && X.env.locals != X.env.globals)) = false := by rw [I.ok.kind]; rfl
  have hiσ : i < σ.length := by rw [I.len]; exact (List.getElem?_eq_some_iff.mp hi).1
  have cne := I.cne
  have tracked : ∀ {a : Addr} {h' : Heap}, (∃ o, s.heap.get? a = some o ∧ H a = none) → Heap.SameBut a s.heap h' → HOk X.prog X.w H h' := fun {a h'} ha hs b ob e => by
    obtain ⟨_, _, hfree⟩ := ha
    refine (I.hok b ob e).stay (fun c w' hc q => (hs.2 c ?_).trans q) (fun _ q => q) fun _ _ q => q
    rintro rfl
    rcases hc with rfl | hc
    · rw [hfree] at e; cases e
    · rw [hfree] at hc; cases hc
  rcases hx with hk | hk
  · refine wpAny_storeName_local hk hn (fun h' hn' hs => ?_) hcls
    obtain ⟨oL, _, _, hoL, _⟩ := id hn
    refine h _ ⟨I.ok, I.os, I.bare, ⟨fun b o e n hb hx => ?_, fun b o e n hb hx => ?_, I.base.free, fun b o e hx => ?_, I.base.tups, I.base.frzs, I.base.tbls⟩, ⟨_, hn', fun j y v' e1 e2 e3 => ?_⟩, fun y c e => ?_, I.free, I.freeC, fun p hp => ?_, tracked ⟨oL, hoL, I.free⟩ hs, by simpa using I.len⟩ ⟨_, hs, .inl rfl⟩
    · exact (hs.2 b (Nat.ne_of_lt (Nat.lt_of_lt_of_le (Heap.lt_size e) I.ok.above))).trans (I.base.keep b o e n hb hx)
    · obtain ⟨sl, e1⟩ := I.base.slot b o e n hb hx
      exact ⟨sl, (hs.2 b (Nat.ne_of_lt (Nat.lt_of_lt_of_le (Heap.lt_size e) I.ok.above))).trans e1⟩
    · obtain ⟨o', e1⟩ := I.base.there b o e hx
      exact ⟨o', (hs.2 b (Nat.ne_of_lt (Nat.lt_of_lt_of_le (Heap.lt_size e) I.ok.above))).trans e1⟩
    · by_cases hj : j = i
      · subst hj
        rw [hi] at e1; cases e1
        rw [List.getElem?_set_self hiσ] at e2
        cases e2
        exact ⟨u, r, .inl ⟨hk, by simp⟩⟩
      · rw [List.getElem?_set_ne (Ne.symm hj)] at e2
        obtain ⟨u', r', q⟩ := hl j y v' e1 e2 e3
        refine ⟨u', r', ?_⟩
        rcases q with ⟨k, e⟩ | ⟨k, c, e, z⟩
        · refine .inl ⟨k, ?_⟩
          have : y ≠ x := fun e => hj (nodup_ix hN e1 (e ▸ hi))
          simp [this, e]
        · exact .inr ⟨k, c, e, z.sameBut hs (cne y c e)⟩
    · obtain ⟨w', z⟩ := I.cell y c e
      exact ⟨w', z.sameBut hs (cne y c e)⟩
    · obtain ⟨e, n, ne, nf, d⟩ := I.pin p hp
      exact ⟨(hs.2 p.1 ne).trans e, n, ne, nf, d⟩
  · have hfn : X.fn x = true := by
      rcases hf with z | z
      · exact z
      · rw [z] at hk; cases hk
    obtain ⟨c, hc⟩ := I.ok.has x (.inl hk)
    obtain ⟨w', z⟩ := I.cell x c hc
    refine wpAny_storeName_cell I.ok.kind hk hc z (fun h' hc' hs => ?_)
    obtain ⟨oc, hoc, hocd⟩ := id z
    refine h { s with heap := h' } ⟨I.ok, I.os, I.bare, ⟨fun b o e n hb hx => ?_, fun b o e n hb hx => ?_, I.base.free, fun b o e hx => ?_, I.base.tups, I.base.frzs, I.base.tbls⟩, ⟨m, hn.sameBut hs (Ne.symm (cne x c hc)), fun j y v' e1 e2 e3 => ?_⟩, fun y c' e => ?_, I.free, I.freeC, fun p hp => ?_, tracked ⟨oc, hoc, I.freeC x c hc⟩ hs, by simpa using I.len⟩ ⟨c, hs, .inr hc⟩
    · exact (hs.2 b (Nat.ne_of_lt (Nat.lt_of_lt_of_le (Heap.lt_size e) (I.ok.cab x c hfn hc)))).trans (I.base.keep b o e n hb hx)
    · obtain ⟨sl, e1⟩ := I.base.slot b o e n hb hx
      exact ⟨sl, (hs.2 b (Nat.ne_of_lt (Nat.lt_of_lt_of_le (Heap.lt_size e) (I.ok.cab x c hfn hc)))).trans e1⟩
    · obtain ⟨o', e1⟩ := I.base.there b o e hx
      exact ⟨o', (hs.2 b (Nat.ne_of_lt (Nat.lt_of_lt_of_le (Heap.lt_size e) (I.ok.cab x c hfn hc)))).trans e1⟩
    · by_cases hj : j = i
      · subst hj
        rw [hi] at e1; cases e1
        rw [List.getElem?_set_self hiσ] at e2
        cases e2
        exact ⟨u, r, .inr ⟨.inl hk, c, hc, hc'⟩⟩
      · rw [List.getElem?_set_ne (Ne.symm hj)] at e2
        obtain ⟨u', r', q⟩ := hl j y v' e1 e2 e3
        refine ⟨u', r', ?_⟩
        rcases q with q | ⟨k, c', e, z'⟩
        · exact .inl q
        · refine .inr ⟨k, c', e, z'.sameBut hs ?_⟩
          rintro rfl
          exact hj (nodup_ix hN e1 (I.ok.inj _ _ _ e hc ▸ hi))
    · by_cases hcc : c' = c
      · subst hcc; exact ⟨_, hc'⟩
      · obtain ⟨w2, z2⟩ := I.cell y c' e
        exact ⟨w2, z2.sameBut hs hcc⟩
    · obtain ⟨e, n, ne, nf, d⟩ := I.pin p hp
      refine ⟨(hs.2 p.1 ?_).trans e, n, ne, nf, d⟩
      intro q
      rw [q, hoc] at e
      have q' : oc = p.2 := Option.some.inj e
      exact d w' (by rw [← q']; exact hocd)
theorem store_ok {M : Model} {A : Around} {E : Value → Shared → Prop} {i : Nat} {x : Str} {v : V} {u : Value} {Q : Unit → Shared → Prop} (I : Inv X pins σ H s) (hN : X.N.Nodup) (hi : X.N[i]? = some x) (hx : Loc X.env.scope x) (r : RelV v u)
    (h : ∀ s', Inv X pins (σ.set i (some v)) H s' → Q () s') (hf : X.fn x = true ∨ X.env.scope.names.lookup x = some .local := by first | exact .inl rfl | exact .inr rfl | assumption) : wpAny M A (storeName X.env x u) Q E s :=
  store_ok2 I hN hi hx r (fun s' I' _ => h s' I') hf
theorem Inv.call' {s' : Shared} {ch : List Addr} (I : Inv X pins σ H s) (ho : s'.os = s.os) (u : Un (frs X.stack) ch H H' s.heap s'.heap) (hok : HOk X.prog X.w H' s'.heap) (hg : AllBare s'.gens)
    (hch : ∀ b ∈ ch, (b ∈ X.ex ∨ X.s₀.heap.objs.size ≤ b) ∧ b ≠ X.env.locals ∧ (∀ x c, X.env.cells.lookup x = some c → c ≠ b) ∧ ∀ p ∈ X.pn ++ pins, p.1 ≠ b) : Inv X pins σ H' s' := by
  obtain ⟨h', g', d', t', o'⟩ := s'
  have e : o' = s.os := ho
  subst e
  exact I.call (g' := g') (t' := t') (d' := d') u hok hg hch
end

noncomputable abbrev XK := Value → Option Addr → Hp → Prop
noncomputable abbrev St := List (Option V)
noncomputable abbrev VK := V → Hp → Prop
noncomputable abbrev TE := St → Hp → VK → Prop
noncomputable abbrev TT := St → Hp → (Bool → Hp → Prop) → Prop
noncomputable abbrev TA := St → Hp → (List V → Hp → Prop) → Prop
structure Ends where
  nx : St → Hp → Prop
  rt : VK
  bk : St → Hp → Prop := fun _ _ => False
  ct : St → Hp → Prop := fun _ _ => False
noncomputable abbrev TS := Ends → St → Hp → Prop

noncomputable def EP (X : Cx) (pins : List (Addr × Obj)) (σ : St) (Q : VK) (u : Value) (s' : Shared) : Prop := ∃ v H', Inv X pins σ H' s' ∧ RelV v u ∧ Q v H'
noncomputable def TP (X : Cx) (pins : List (Addr × Obj)) (σ : St) (Q : Bool → Hp → Prop) (b : Bool) (s' : Shared) : Prop := ∃ H', Inv X pins σ H' s' ∧ Q b H'
noncomputable def AP (X : Cx) (pins : List (Addr × Obj)) (σ : St) (Q : List V → Hp → Prop) (us : List Value) (s' : Shared) : Prop := ∃ vs H', Inv X pins σ H' s' ∧ Vals vs us ∧ Q vs H'
noncomputable def SP (X : Cx) (pins : List (Addr × Obj)) (D : Ends) (f : Flow) (s' : Shared) : Prop :=
  match f with
  | .next => ∃ σ' H', Inv X pins σ' H' s' ∧ D.nx σ' H'
  | .brk => ∃ σ' H', Inv X pins σ' H' s' ∧ D.bk σ' H'
  | .cont => ∃ σ' H', Inv X pins σ' H' s' ∧ D.ct σ' H'
  | .ret u => ∃ v σ' H', Inv X pins σ' H' s' ∧ RelV v u ∧ D.rt v H'

noncomputable def PE (X : Cx) (e : Expr) (t : TE) : Prop :=
  ∀ (pins : List (Addr × Obj)) (s : Shared) (σ : St) (H : Hp) (Q : VK), Inv X pins σ H s → t σ H Q → wpAny (model X.prog X.w) X.A (eval e X.env) (EP X pins σ Q) X.xe s
noncomputable def PT (X : Cx) (e : Expr) (t : TT) : Prop :=
  ∀ (pins : List (Addr × Obj)) (s : Shared) (σ : St) (H : Hp) (Q : Bool → Hp → Prop), Inv X pins σ H s → t σ H Q → wpAny (model X.prog X.w) X.A (isTrue e X.env (eval e X.env)) (TP X pins σ Q) X.xe s
noncomputable def PW (X : Cx) (e : Expr) (t : TT) : Prop :=
  ∀ (whole : Sem Value) (pins : List (Addr × Obj)) (s : Shared) (σ : St) (H : Hp) (Q : Bool → Hp → Prop), Inv X pins σ H s → t σ H Q → wpAny (model X.prog X.w) X.A (isTrue e X.env whole) (TP X pins σ Q) X.xe s
theorem PW.pt {X : Cx} {e : Expr} {t : TT} (h : PW X e t) : PT X e t := h _
noncomputable def PA (X : Cx) (es : List Expr) (t : TA) : Prop :=
  ∀ (pos : Pos) (pins : List (Addr × Obj)) (s : Shared) (σ : St) (H : Hp) (Q : List V → Hp → Prop), Inv X pins σ H s → t σ H Q → wpAny (model X.prog X.w) X.A (spliced (backTo pos (starEach es X.env))) (AP X pins σ Q) X.xe s
noncomputable def PS (X : Cx) (st : Stmt) (t : TS) : Prop :=
  ∀ (pins : List (Addr × Obj)) (s : Shared) (σ : St) (H : Hp) (D : Ends), Inv X pins σ H s → t D σ H → wpAny (model X.prog X.w) X.A (exec st X.env) (SP X pins D) X.xe s
noncomputable def PSs (X : Cx) (st : List Stmt) (t : TS) : Prop :=
  ∀ (pins : List (Addr × Obj)) (s : Shared) (σ : St) (H : Hp) (D : Ends), Inv X pins σ H s → t D σ H → wpAny (model X.prog X.w) X.A (execs st X.env) (SP X pins D) X.xe s
theorem thn {α : Type} {t : Sem α} {Q Q' : α → Shared → Prop} {M : Model} {A : Around} {E : Value → Shared → Prop} {s : Shared} (h : wpAny M A t Q E s) (hQ : ∀ a s, Q a s → Q' a s) : wpAny M A t Q' E s := wpAny_mono h hQ fun _ _ x => x
end L2

namespace L2
open PySem PySem.Spec PyProof.Rows
section
variable {X : Cx}


noncomputable def tVar (i : Nat) : TE := fun σ H Q => ∃ v, σ[i]? = some (some v) ∧ Q v H
noncomputable def tC (v : V) : TE := fun _ H Q => Q v H
theorem pe_var {i : Nat} {x : Str} {pos : Pos} (hN : X.N[i]? = some x) (hv : Vis X.env.scope x) (hd : (x == ("__debug__" : Str)) = false := by decide) (hcd : (x == ("__classdict__" : Str)) = false := by decide) : PE X (.Name x pos) (tVar i) := by
  intro pins s σ H Q I h
  obtain ⟨v, e, h⟩ := h
  obtain ⟨m, hn, hl⟩ := I.loc
  obtain ⟨u, r, l⟩ := hl i x v hN e hv
  have fin : EP X pins σ Q u s := ⟨v, H, I, r, h⟩
  rcases l with ⟨hk, hm⟩ | ⟨hk, c, hc, hcell⟩
  · exact wpAny_Name (wpAny_loadName_local I.ok.kind hk hn hm fin) hd
  · rcases hk with hk | hk
    · exact wpAny_Name (wpAny_loadName_cell I.ok.kind hk hc hcell fin) hd
    · exact wpAny_Name (wpAny_loadName_free I.ok.kind hk hc hcell fin hcd) hd
theorem pe_int {i j pos} : PE X (.Constant (.int i) j pos) (tC (.int i)) := fun _ _ _ H _ I h => wpAny_Constant_int ⟨.int i, H, I.tok _, ⟨_, rfl⟩, h⟩
theorem pe_bl {b j pos} : PE X (.Constant (.bool b) j pos) (tC (.bl b)) := fun _ _ _ H _ I h => Constant_bool ⟨.bl b, H, I, rfl, h⟩
theorem pe_non {j pos} : PE X (.Constant .none j pos) (tC .non) := fun _ _ _ H _ I h => Constant_none ⟨.non, H, I, rfl, h⟩
theorem pe_str {x j pos} : PE X (.Constant (.str x) j pos) (tC (.str x)) := fun _ _ _ H _ I h => Calls.Constant_str ⟨.str x, H, I.tok _, ⟨_, rfl⟩, h⟩

noncomputable def Gl (X : Cx) (x : Str) : Prop := X.env.kindOf x = some .globalImplicit
theorem ld_glob {E : Value → Shared → Prop} {pins : List (Addr × Obj)} {s : Shared} {σ : St} {H : Hp} {x : Str} {u : Value} {pos : Pos} {Q : Value → Shared → Prop} (I : Inv X pins σ H s) (hg : Gl X x) (hm : X.mg x = some u) (h : Q u s)
    (hd : (x == ("__debug__" : Str)) = false := by decide) : wpAny (model X.prog X.w) X.A (eval (.Name x pos) X.env) Q E s :=
  Calls.Name_function_global I.ok.kind hg (Calls.loadGlobal_global (by rw [I.ok.glob]; exact I.mod.glob.keeps I.bk) hm h) hd
theorem ld_blt {E : Value → Shared → Prop} {pins : List (Addr × Obj)} {s : Shared} {σ : St} {H : Hp} {x : Str} {u : Value} {pos : Pos} {Q : Value → Shared → Prop} (I : Inv X pins σ H s) (hg : Gl X x) (hm : X.mg x = none) (hv : bootBuiltins x = some u) (h : Q u s)
    (hn : x ≠ "__name__" := by decide) (hd : (x == ("__debug__" : Str)) = false := by decide) : wpAny (model X.prog X.w) X.A (eval (.Name x pos) X.env) Q E s := by
  obtain ⟨mb, h1, h2⟩ := I.mod.blt
  exact Calls.Name_function_global I.ok.kind hg (Calls.loadGlobal_builtin (by rw [I.ok.glob]; exact I.mod.glob.keeps I.bk) hm (by rw [I.ok.blt]; exact h1.keeps I.bk) ((h2 x hn).trans hv) h) hd
theorem pe_glob {x : Str} {v : V} {u : Value} {pos : Pos} (hg : Gl X x) (hm : X.mg x = some u) (r : RelV v u) (hd : (x == ("__debug__" : Str)) = false := by decide) : PE X (.Name x pos) (tC v) :=
  fun _ _ _ H _ I h => ld_glob I hg hm ⟨v, H, I, r, h⟩ hd
theorem pe_bltn {x : Str} {v : V} {u : Value} {pos : Pos} (hg : Gl X x) (hm : X.mg x = none) (hv : bootBuiltins x = some u) (r : RelV v u) (hn : x ≠ "__name__" := by decide) (hd : (x == ("__debug__" : Str)) = false := by decide) : PE X (.Name x pos) (tC v) :=
  fun _ _ _ H _ I h => ld_blt I hg hm hv ⟨v, H, I, r, h⟩ hn hd

variable {a b : Expr} {ta tb : TE} {pos : Pos}


variable {tA tB' : TT} {rest : List Expr}
noncomputable def tAnd (t u : TT) : TT := fun σ H Q => t σ H fun c H1 => if c = true then u σ H1 Q else Q false H1
noncomputable def tOr (t u : TT) : TT := fun σ H Q => t σ H fun c H1 => if c = true then Q true H1 else u σ H1 Q
noncomputable def tNot (t : TT) : TT := fun σ H Q => t σ H fun c H1 => Q (!c) H1
theorem pw_and1 (ha : PT X a tA) : PW X (.BoolOp .And [a] pos) tA := by
  intro wh pins s σ H Q I h
  refine isTrue_and (thn (ha pins s σ H Q I h) fun c s1 e => ?_)
  cases c with
  | true => exact isTrue_and_nil e
  | false => exact e
theorem pw_or1 (ha : PT X a tA) : PW X (.BoolOp .Or [a] pos) tA := by
  intro wh pins s σ H Q I h
  refine isTrue_or (thn (ha pins s σ H Q I h) fun c s1 e => ?_)
  cases c with
  | false => exact isTrue_or_nil e
  | true => exact e
theorem pw_and (ha : PT X a tA) (hb : PW X (.BoolOp .And (b :: rest) pos) tB') : PW X (.BoolOp .And (a :: b :: rest) pos) (tAnd tA tB') := by
  intro wh pins s σ H Q I h
  refine isTrue_and (thn (ha pins s σ H _ I h) fun c s1 zq7 => ?_)
  obtain ⟨H1, I1, q1⟩ := zq7
  cases c with
  | true => exact hb wh pins s1 σ H1 Q I1 q1
  | false => exact ⟨H1, I1, q1⟩
theorem pw_or (ha : PT X a tA) (hb : PW X (.BoolOp .Or (b :: rest) pos) tB') : PW X (.BoolOp .Or (a :: b :: rest) pos) (tOr tA tB') := by
  intro wh pins s σ H Q I h
  refine isTrue_or (thn (ha pins s σ H _ I h) fun c s1 zq8 => ?_)
  obtain ⟨H1, I1, q1⟩ := zq8
  cases c with
  | true => exact ⟨H1, I1, q1⟩
  | false => exact hb wh pins s1 σ H1 Q I1 q1
theorem pt_not (ha : PT X a tA) : PT X (.UnaryOp .Not a pos) (tNot tA) := by
  intro pins s σ H Q I h
  exact isTrue_not (ha pins s σ H (fun c H1 => Q (!c) H1) I h)
noncomputable def tAndV (ta tb : TE) : TE := fun σ H Q => ta σ H fun x H1 => ∃ c, x = .bl c ∧ if c = true then tb σ H1 Q else Q (.bl false) H1
noncomputable def tOrV (ta tb : TE) : TE := fun σ H Q => ta σ H fun x H1 => ∃ c, x = .bl c ∧ if c = true then Q (.bl true) H1 else tb σ H1 Q
theorem pe_one {op} {t : TE} (h : PE X a t) : PE X (.BoolOp op [a] pos) t := fun pins s σ H Q I hw => BoolOp_one (h pins s σ H Q I hw)
theorem pe_and (ha : PE X a ta) (hb : PE X (.BoolOp .And (b :: rest) pos) tb) : PE X (.BoolOp .And (a :: b :: rest) pos) (tAndV ta tb) := by
  intro pins s σ H Q I h
  refine BoolOp_and (thn (ha pins s σ H _ I h) fun v s1 zq9 => ?_)
  obtain ⟨x, H1, I1, r1, q1⟩ := zq9
  obtain ⟨c, rfl, q1⟩ := q1
  cases r1
  refine wpAny_truthy_bool ?_
  cases c with
  | true => exact hb pins s1 σ H1 Q I1 q1
  | false => exact ⟨.bl false, H1, I1, rfl, q1⟩
theorem pe_or (ha : PE X a ta) (hb : PE X (.BoolOp .Or (b :: rest) pos) tb) : PE X (.BoolOp .Or (a :: b :: rest) pos) (tOrV ta tb) := by
  intro pins s σ H Q I h
  refine BoolOp_or (thn (ha pins s σ H _ I h) fun v s1 zq10 => ?_)
  obtain ⟨x, H1, I1, r1, q1⟩ := zq10
  obtain ⟨c, rfl, q1⟩ := q1
  cases r1
  refine wpAny_truthy_bool ?_
  cases c with
  | false => exact hb pins s1 σ H1 Q I1 q1
  | true => exact ⟨.bl true, H1, I1, rfl, q1⟩
noncomputable def tIf (t : TT) (ta tb : TE) : TE := fun σ H Q => t σ H fun c H1 => if c = true then ta σ H1 Q else tb σ H1 Q
theorem pe_ifExp {c : Expr} (hc : PT X c tA) (ha : PE X a ta) (hb : PE X b tb) : PE X (.IfExp c a b pos) (tIf tA ta tb) := by
  intro pins s σ H Q I h
  refine wpAny_IfExp (thn (hc pins s σ H _ I h) fun d s1 zq12 => ?_)
  obtain ⟨H1, I1, q1⟩ := zq12
  cases d with
  | true => exact ha pins s1 σ H1 Q I1 q1
  | false => exact hb pins s1 σ H1 Q I1 q1
end
end L2

namespace L2
open PySem PySem.Spec PyProof.Rows

noncomputable def SqL (K : PySem.W.Frag) (H : Hp) (a : Addr) (xs : List V) : Prop :=
  Rd H a (.lst xs) ∨
    ∃ (o : Obj) (its : Array Value) (n : Nat), K.lookup a = some o ∧ o.cls = .type "list" ∧ o.dict = none ∧ o.data = .seq its n ∧ its.size ≤ sizeLine ∧ Vals xs its.toList
noncomputable def SqT (K : PySem.W.Frag) (H : Hp) (a : Addr) (xs : List V) : Prop :=
  Rd H a (.tup xs) ∨
    ∃ (o : Obj) (its : Array Value) (n : Nat), K.lookup a = some o ∧ o.cls = .type "tuple" ∧ o.data = .seq its n ∧ its.size ≤ sizeLine ∧ Vals xs its.toList
noncomputable def absV : Value → Option V
  | .none => some .non
  | .bool b => some (.bl b)
  | .int i _ => some (.int i)
  | .str x _ => some (.str x)
  | .bytes b _ => some (.byt b)
  | .float b _ => some (.flt b)
  | .ref a => some (.ref a)
  | .type n => some (.ty n)
  | _ => none
theorem RelV.abs {x : V} {u : Value} (r : RelV x u) : absV u = some x := by
  cases x with
  | non => cases r; rfl
  | bl _ => cases r; rfl
  | int _ => obtain ⟨t, rfl⟩ := r; rfl
  | str _ => obtain ⟨t, rfl⟩ := r; rfl
  | byt _ => obtain ⟨t, rfl⟩ := r; rfl
  | flt _ => obtain ⟨t, rfl⟩ := r; rfl
  | ref _ => cases r; rfl
  | ty _ => cases r; rfl
theorem RelV.inj {x y : V} {u : Value} (r : RelV x u) (q : RelV y u) : x = y := Option.some.inj (r.abs.symm.trans q.abs)
theorem Vals.inj : ∀ {xs ys : List V} {us : List Value}, Vals xs us → Vals ys us → xs = ys
  | _, _, _, .nil, .nil => rfl
  | _, _, _, .cons r t, .cons r' t' => by rw [r.inj r', Vals.inj t t']
section
variable {X : Cx} {pins : List (Addr × Obj)} {σ : St} {H : Hp} {s : Shared} {a : Addr} {xs ys : List V}
theorem SqL.of {K : PySem.W.Frag} (h : H a = some (.lst xs)) : SqL K H a xs := .inl (.inl h)
theorem SqT.of {K : PySem.W.Frag} (h : H a = some (.tup xs)) : SqT K H a xs := .inl (.inl h)
theorem Inv.list (I : Inv X pins σ H s) (h : SqL X.K H a xs) : ∃ its : List Value, Vals xs its ∧ PlainL s.heap a its.toArray ∧ xs.length ≤ sizeLine := by
  rcases h with h | ⟨o, its, n, hk, hc, hd, hs, hz, r⟩
  · obtain ⟨z, its, n, r, e⟩ := h.ok I.hok
    exact ⟨its, r, ⟨_, n, e, rfl, rfl, rfl⟩, z⟩
  · refine ⟨its.toList, r, ⟨o, n, I.kIn a o hk, hc, hd, by simpa using hs⟩, ?_⟩
    have e := r.length
    simp only [Array.length_toList] at e
    omega
theorem Inv.tuple (I : Inv X pins σ H s) (h : SqT X.K H a xs) : ∃ its : List Value, Vals xs its ∧ IsTup s.heap a its.toArray ∧ xs.length ≤ sizeLine := by
  rcases h with h | ⟨o, its, n, hk, hc, hs, hz, r⟩
  · obtain ⟨z, its, r, p⟩ := h.ok I.hok
    exact ⟨its, r, p, z⟩
  · refine ⟨its.toList, r, ⟨o, I.kIn a o hk, hc, n, by simpa using hs⟩, ?_⟩
    have e := r.length
    simp only [Array.length_toList] at e
    omega
theorem Inv.list_inj (I : Inv X pins σ H s) (h : SqL X.K H a xs) (h' : SqL X.K H a ys) : xs = ys := by
  obtain ⟨its, r, ⟨o, n, e, _, _, d⟩, _⟩ := I.list h
  obtain ⟨its', r', ⟨o', n', e', _, _, d'⟩, _⟩ := I.list h'
  rw [e] at e'; cases e'
  rw [d] at d'
  injection d' with d1 _
  have : its = its' := by simpa using congrArg Array.toList d1
  subst this
  exact r.inj r'
theorem Inv.tuple_inj (I : Inv X pins σ H s) (h : SqT X.K H a xs) (h' : SqT X.K H a ys) : xs = ys := by
  obtain ⟨its, r, ⟨o, e, _, n, d⟩, _⟩ := I.tuple h
  obtain ⟨its', r', ⟨o', e', _, n', d'⟩, _⟩ := I.tuple h'
  rw [e] at e'; cases e'
  rw [d] at d'
  injection d' with d1 _
  have : its = its' := by simpa using congrArg Array.toList d1
  subst this
  exact r.inj r'
end

noncomputable abbrev Cx.wish (X : Cx) (E : Value → Shared → Prop) : Cx := { X with xe := E }
noncomputable abbrev Cx.nox (X : Cx) : Cx := X.wish fun _ _ => False
theorem Cx.Ok.wish {X : Cx} (ok : X.Ok) (E : Value → Shared → Prop) : (X.wish E).Ok :=
  ⟨ok.mod, ok.kind, ok.glob, ok.blt, ok.above, ok.inj, ok.has, ok.cab, ok.hd, ok.frames, ok.stk, ok.exf, ok.bs, ok.bsz, ok.noex, ok.exfs, ok.funs, ok.frf⟩
theorem Cx.Ok.unwish {X : Cx} {E : Value → Shared → Prop} (ok : (X.wish E).Ok) : X.Ok :=
  ⟨ok.mod, ok.kind, ok.glob, ok.blt, ok.above, ok.inj, ok.has, ok.cab, ok.hd, ok.frames, ok.stk, ok.exf, ok.bs, ok.bsz, ok.noex, ok.exfs, ok.funs, ok.frf⟩
section
variable {X : Cx} {pins : List (Addr × Obj)} {σ : St} {H : Hp} {s : Shared} {E : Value → Shared → Prop}
theorem Inv.wish (I : Inv X pins σ H s) (E : Value → Shared → Prop) : Inv (X.wish E) pins σ H s := ⟨I.ok.wish E, I.os, I.bare, I.base, I.loc, I.cell, I.free, I.freeC, I.pin, I.hok, I.len⟩
theorem Inv.unwish (I : Inv (X.wish E) pins σ H s) : Inv X pins σ H s := ⟨I.ok.unwish, I.os, I.bare, I.base, I.loc, I.cell, I.free, I.freeC, I.pin, I.hok, I.len⟩
theorem SP.unwish {D : Ends} {f : Flow} {s' : Shared} (h : SP (X.wish E) pins D f s') : SP X pins D f s' := by
  cases f with
  | next => obtain ⟨σ', H', I, q⟩ := h; exact ⟨σ', H', I.unwish, q⟩
  | brk => obtain ⟨σ', H', I, q⟩ := h; exact ⟨σ', H', I.unwish, q⟩
  | cont => obtain ⟨σ', H', I, q⟩ := h; exact ⟨σ', H', I.unwish, q⟩
  | ret u => obtain ⟨v, σ', H', I, r, q⟩ := h; exact ⟨v, σ', H', I.unwish, r, q⟩
theorem PSs.nox {st : List Stmt} {t : TS} (h : PSs X.nox st t) : PSs X st t := fun pins s σ H D I hw =>
  wpAny_mono (h pins s σ H D (I.wish _) hw) (fun _ _ q => q.unwish) fun _ _ z => False.elim z
end

section
variable {X : Cx} {st : Stmt} {rest : List Stmt} {t u : TS} {e : Expr} {te : TE} {pos : Pos}
noncomputable def tNext : TS := fun D σ H => D.nx σ H
noncomputable def tSeq (t u : TS) : TS := fun D σ H => t { D with nx := u D } σ H
theorem pss_nil : PSs X [] tNext := fun _ _ σ H _ I h => wpAny_execs_nil ⟨σ, H, I, h⟩
theorem pss_cons (h1 : PS X st t) (h2 : PSs X rest u) : PSs X (st :: rest) (tSeq t u) := by
  intro pins s σ H D I h
  refine wpAny_execs_cons (thn (h1 pins s σ H { D with nx := u D } I h) fun f s1 q => ?_)
  cases f with
  | next =>
    obtain ⟨σ', H', I', q⟩ := q
    exact h2 pins s1 σ' H' D I' q
  | ret v => exact q
  | brk => exact q
  | cont => exact q
theorem pss_one (h1 : PS X st t) : PSs X [st] t := by
  intro pins s σ H D I h
  refine wpAny_execs_cons (thn (h1 pins s σ H D I h) fun f s1 q => ?_)
  cases f with
  | next => exact wpAny_execs_nil q
  | ret v => exact q
  | brk => exact q
  | cont => exact q
theorem Inv.quiet {pins : List (Addr × Obj)} {σ : St} {H : Hp} {s : Shared} (I : Inv X pins σ H s) : interactive X.env = false := by simp [interactive, I.ok.kind]
noncomputable def tDrop (te : TE) : TS := fun D σ H => te σ H fun _ H1 => D.nx σ H1
theorem ps_expr (he : PE X e te) (hs : swapsWith e none pos.line X.env = pure false := by rfl) : PS X (.Expr e pos) (tDrop te) := by
  intro pins s σ H D I h
  exact wpAny_Expr_any (thn (he pins s σ H _ I h) fun v s1 zq15 => (by obtain ⟨x, H1, I1, r1, q1⟩ := zq15; exact ⟨σ, H1, I1, q1⟩)) I.quiet hs
noncomputable def tRet (te : TE) : TS := fun D σ H => te σ H D.rt
theorem ps_ret (he : PE X e te) : PS X (.Return (some e) pos) (tRet te) := by
  intro pins s σ H D I h
  exact wpAny_Return_some (thn (he pins s σ H _ I h) fun v s1 zq16 => (by obtain ⟨x, H1, I1, r1, q1⟩ := zq16; exact ⟨x, σ, H1, I1, r1, q1⟩))
noncomputable def tIfS (c : TT) (t u : TS) : TS := fun D σ H => c σ H fun b H1 => if b = true then t D σ H1 else u D σ H1
theorem ps_if {c : Expr} {a b : List Stmt} {tc : TT} (hc : PT X c tc) (ha : PSs X a t) (hb : PSs X b u) : PS X (.If c a b pos) (tIfS tc t u) := by
  intro pins s σ H D I h
  refine wpAny_If (thn (hc pins s σ H _ I h) fun d s1 zq17 => ?_)
  obtain ⟨H1, I1, q1⟩ := zq17
  cases d with
  | true => exact ha pins s1 σ H1 D I1 q1
  | false => exact hb pins s1 σ H1 D I1 q1
end

noncomputable abbrev TG := V → St → Hp → (St → Hp → Prop) → Prop
noncomputable abbrev TGs := List V → St → Hp → (St → Hp → Prop) → Prop
noncomputable def PG (X : Cx) (target : Expr) (t : TG) : Prop :=
  ∀ (pins : List (Addr × Obj)) (s : Shared) (σ : St) (H : Hp) (v : V) (u : Value) (Q : St → Hp → Prop), Inv X pins σ H s → RelV v u → t v σ H Q →
    wpAny (model X.prog X.w) X.A (assign target X.env u) (fun _ s' => ∃ σ' H', Inv X pins σ' H' s' ∧ Q σ' H') X.xe s
noncomputable def PGs (X : Cx) (ts : List Expr) (t : TGs) : Prop :=
  ∀ (pins : List (Addr × Obj)) (s : Shared) (σ : St) (H : Hp) (vs : List V) (us : List Value) (Q : St → Hp → Prop), Inv X pins σ H s → Vals vs us → t vs σ H Q →
    wpAny (model X.prog X.w) X.A (assignInOrder ((assignEach ts X.env).map (·.2)) us) (fun _ s' => ∃ σ' H', Inv X pins σ' H' s' ∧ Q σ' H') X.xe s
section
variable {X : Cx} {pos : Pos}
noncomputable def gName (i : Nat) : TG := fun v σ H Q => Q (σ.set i (some v)) H
theorem pg_name {i : Nat} {x : Str} (hN : X.N.Nodup) (hi : X.N[i]? = some x) (hx : Loc X.env.scope x) (hf : X.fn x = true ∨ X.env.scope.names.lookup x = some .local := by first | exact .inl rfl | exact .inr rfl | assumption) : PG X (.Name x pos) (gName i) := by
  intro pins s σ H v u Q I r h
  exact wpAny_assign_Name (store_ok I hN hi hx r (fun s' I' => ⟨_, H, I', h⟩) hf)
noncomputable def gNil : TGs := fun vs σ H Q => vs = [] ∧ Q σ H
noncomputable def gCons (t : TG) (u : TGs) : TGs := fun vs σ H Q => ∃ v r, vs = v :: r ∧ t v σ H fun σ' H' => u r σ' H' Q
theorem pgs_nil : PGs X [] gNil := by
  intro pins s σ H vs us Q I r h
  obtain ⟨e, h⟩ := h
  subst e
  cases r
  exact assignInOrder_nil ⟨σ, H, I, h⟩
theorem pgs_cons {e : Expr} {es : List Expr} {t : TG} {u : TGs} (h1 : PG X e t) (h2 : PGs X es u)
    (hs : (assignEach (e :: es) X.env).map (·.2) = assign e X.env :: (assignEach es X.env).map (·.2) := by rfl) : PGs X (e :: es) (gCons t u) := by
  intro pins s σ H vs us Q I r h
  obtain ⟨v, vr, e1, h⟩ := h
  subst e1
  cases r with
  | cons r rr =>
    rw [hs]
    refine assignInOrder_cons (thn (h1 pins s σ H _ _ _ I r h) fun _ s1 zq18 => ?_)
    obtain ⟨σ1, H1, I1, q1⟩ := zq18
    exact h2 pins s1 σ1 H1 _ _ Q I1 rr q1
noncomputable def gTup (K : PySem.W.Frag) (n : Nat) (t : TGs) : TG := fun v σ H Q => ∃ a xs, v = .ref a ∧ SqT K H a xs ∧ xs.length = n ∧ t xs σ H Q
theorem pg_tup {es : List Expr} {k : Nat} {t : TGs} {n : Nat} (hc : X.calm = true) (h : PGs X es t)
    (hn : (assignEach es X.env).length = n := by rfl) (hst : (assignEach es X.env).findIdx? (·.1) = none := by rfl) : PG X (.Tuple es k pos) (gTup X.K n t) := by
  intro pins s σ H v u Q I r hw
  obtain ⟨a, xs, e1, hq, hl, hw⟩ := hw
  subst e1
  cases r
  obtain ⟨its, rv, ht, hz⟩ := I.tuple hq
  refine assign_Tuple_tuple (I.ok.hd hc) ht (by simp [hn, ← hl, rv.length]) hst fun h' hx => ?_
  have I1 : Inv X pins σ H { s with heap := h' } := I.kept (t' := s.toks) fun b o e => hx b o (Nat.ne_of_lt (Heap.lt_size e)) e
  exact h pins _ σ H xs _ Q I1 (by simpa using rv) hw
noncomputable def tAsg (te : TE) (g : TG) : TS := fun D σ H => te σ H fun x H1 => g x σ H1 D.nx
theorem ps_set {i : Nat} {x : Str} {e : Expr} {te : TE} {pos' : Pos} (hN : X.N.Nodup) (hi : X.N[i]? = some x) (hx : Loc X.env.scope x) (he : PE X e te) (hs : swapsWith e (some (.Name x pos')) pos.line X.env = pure false := by rfl) (hf : X.fn x = true ∨ X.env.scope.names.lookup x = some .local := by first | exact .inl rfl | exact .inr rfl | assumption) :
    PS X (.Assign [.Name x pos'] e pos) (tAsg te (gName i)) := by
  intro pins s σ H D I h
  refine wpAny_Assign_Name (thn (he pins s σ H _ I h) fun v s1 zq23 => ?_) hs
  obtain ⟨y, H1, I1, r1, q1⟩ := zq23
  exact store_ok I1 hN hi hx r1 (fun s2 I2 => ⟨_, H1, I2, q1⟩) hf
end

section
variable {X : Cx} {pos : Pos}
end

structure It where
  go : Nat → Hp → Prop
  yld : Nat → Hp → V → Hp → Prop
  stop : Nat → Hp → Prop
noncomputable def FpOk (X : Cx) (pins : List (Addr × Obj)) (H : Hp) (b : Addr) : Prop :=
  H b = none ∧ b ≠ X.env.locals ∧ b ∉ X.fs ∧ (b ∈ X.ex ∨ X.s₀.heap.objs.size ≤ b) ∧ (∀ x c, X.env.cells.lookup x = some c → c ≠ b) ∧ ∀ p ∈ X.pn ++ pins, p.1 ≠ b
theorem Inv.fpOk {X : Cx} {pins : List (Addr × Obj)} {σ : St} {H H' : Hp} {s : Shared} {b : Addr} (I : Inv X pins σ H s) (hb : s.heap.objs.size ≤ b) (hn : H' b = none) : FpOk X pins H' b := by
  refine ⟨hn, Nat.ne_of_gt (Nat.lt_of_lt_of_le I.lt hb), I.nofs hb, .inr (Nat.le_trans I.sz hb), fun x c e z => ?_, fun p hp z => ?_⟩
  · obtain ⟨v, q⟩ := I.cell x c e
    exact absurd (Nat.lt_of_lt_of_le q.lt (by rw [z]; exact hb)) (Nat.lt_irrefl _)
  · exact absurd (Nat.lt_of_lt_of_le (Heap.lt_size (I.pin p hp).1) (by rw [z]; exact hb)) (Nat.lt_irrefl _)
structure Turn (P : Program) (w : World) (K : PySem.W.Frag) (tg : Expr) (J : It) (fp : List Addr) (it : Addr) (tn : Nat → Heap → Prop) : Prop where
  mem : it ∈ fp
  obj : ∀ i h, tn i h → ∀ b ∈ fp, ∃ o, h.get? b = some o ∧ ∀ v, o.data ≠ .cell v
  keep : ∀ i h h', tn i h → (∀ b ∈ fp, ∀ o, h.get? b = some o → h'.get? b = some o) → tn i h'
  item : ∀ (X : Cx), X.prog = P → X.w = w → X.K = K → X.calm = true → ∀ (i : Nat) (pins : List (Addr × Obj)) (s : Shared) (σ : St) (H : Hp) (E : Value → Shared → Prop), Inv X pins σ H s → (∀ b ∈ fp, FpOk X pins H b) → tn i s.heap → J.go i H →
    wpAny (model P w) X.A (pyNext (.ref it)) (fun r s1 => ∃ u, r = some u ∧
      wpAny (model P w) X.A (letOwnedTupleGo tg (.ref it) u) (fun _ s2 => ∃ x H', Inv X pins σ H' s2 ∧ RelV x u ∧ J.yld i H x H' ∧ tn (i + 1) s2.heap ∧ ∀ b ∈ fp, H' b = none) E s1) E s
  done : ∀ (X : Cx), X.prog = P → X.w = w → X.K = K → X.calm = true → ∀ (i : Nat) (pins : List (Addr × Obj)) (s : Shared) (σ : St) (H : Hp) (E : Value → Shared → Prop), Inv X pins σ H s → (∀ b ∈ fp, FpOk X pins H b) → tn i s.heap → J.stop i H →
    wpAny (model P w) X.A (pyNext (.ref it)) (fun r s1 => r = none ∧ Inv X pins σ H s1) E s
  self : ∀ (A : Around) (i : Nat) (s : Shared) (Q : Value → Shared → Prop) (E : Value → Shared → Prop), tn i s.heap → Q (.ref it) s → wpAny (model P w) A (pyIter (.ref it)) Q E s
noncomputable abbrev TI := St → Hp → (It → Hp → Prop) → Prop
noncomputable def PIE (X : Cx) (pins : List (Addr × Obj)) (σ : St) (tg : Expr) (R : It → Hp → Prop) (itv : Value) (s2 : Shared) : Prop :=
  ∃ (it : Addr) (fp : List Addr) (tn : Nat → Heap → Prop) (J : It) (H' : Hp), itv = .ref it ∧ Inv X pins σ H' s2 ∧ Turn X.prog X.w X.K tg J fp it tn ∧ tn 0 s2.heap ∧ (∀ b ∈ fp, FpOk X pins H' b) ∧ R J H'
noncomputable def PI (X : Cx) (tg iter : Expr) (wi : TI) : Prop :=
  ∀ (pins : List (Addr × Obj)) (s : Shared) (σ : St) (H : Hp) (R : It → Hp → Prop), Inv X pins σ H s → wi σ H R →
    wpAny (model X.prog X.w) X.A (eval iter X.env) (fun v s1 => wpAny (model X.prog X.w) X.A (pyIter v) (PIE X pins σ tg R) X.xe s1) X.xe s

theorem go_of {M : Model} {A : Around} {E : Value → Shared → Prop} {s : Shared} {tg : Expr} {it : Addr} {u : Value} {o : Obj} {n : String} {vs : Array Value} {Q : Unit → Shared → Prop} (ho : s.heap.get? it = some o) (hc : o.cls = .type n) (hd : o.data = .fields vs)
    (hn : ["enumerate", "zip", "dict_itemiterator", "dict_reverseitemiterator", "odict_iterator", "itertools.zip_longest", "itertools.pairwise"].contains n = false) (hQ : Q () s) : wpAny M A (letOwnedTupleGo tg (.ref it) u) Q E s := by
  unfold letOwnedTupleGo
  cases tg <;> first
    | exact wpAny_pure hQ
    | (cases u <;> first
        | exact wpAny_pure hQ
        | (refine wpAny_bind (wpAny_load ho ?_)
           rw [hc, hd]
           show wpAny M A (if (["enumerate", "zip", "dict_itemiterator", "dict_reverseitemiterator", "odict_iterator", "itertools.zip_longest", "itertools.pairwise"].contains n && vs[0]? == some (rawInt _)) = true then _ else _) Q E s
           rw [if_neg (by intro h; rw [hn, Bool.false_and] at h; cases h)]
           exact wpAny_pure hQ))

noncomputable def Itl (K : PySem.W.Frag) (a : Addr) : It :=
  ⟨fun i H => ∃ xs x, SqL K H a xs ∧ xs[i]? = some x, fun i H x H' => H' = H ∧ ∀ xs, SqL K H a xs → xs[i]? = some x, fun i H => ∃ xs, SqL K H a xs ∧ xs.length ≤ i⟩
noncomputable def Itr (lo : Int) (n : Nat) : It := ⟨fun i _ => i < n, fun i H x H' => H' = H ∧ x = .int (lo + i), fun i _ => n ≤ i⟩
theorem turn_list {P : Program} {w : World} {K : PySem.W.Frag} {tg : Expr} (a it : Addr) : Turn P w K tg (Itl K a) [it] it (fun i h => h.IsListIter it a i) where
  mem := by simp
  obj := fun i h st b hb => by
    have e : b = it := by simpa using hb
    subst e
    obtain ⟨o, e, c, d⟩ := st
    exact ⟨o, e, fun v z => by rw [d] at z; cases z⟩
  keep := fun i h h' st k => st.at fun o e => k it (by simp) o e
  item := by
    intro X hP hw hK hc i pins s σ H E I hf st hg
    subst hP hw hK
    obtain ⟨xs, x, hq, hx⟩ := hg
    obtain ⟨its, rv, p, hz⟩ := I.list hq
    obtain ⟨u, hu, ru⟩ := rv.get hx
    obtain ⟨f0, f1, f2, f3, f4, f5⟩ := hf it (by simp)
    refine wpAny_pyNext_list_item st p.isList (x := u) (by simpa using hu) fun h' st' sb => ?_
    have I1 : Inv X pins σ H { s with heap := h' } := I.turned (t' := s.toks) (fun b o hb e => (sb.2 b hb).trans e) f0 f1 f3 f4 f5
    obtain ⟨o, e, c, d⟩ := id st'
    exact ⟨u, rfl, go_of (s := { s with heap := h' }) e c d (by decide) ⟨x, H, I1, ru, ⟨rfl, fun ys hy => by rw [I.list_inj hy hq]; exact hx⟩, st', fun b hb => (hf b hb).1⟩⟩
  done := by
    intro X hP hw hK hc i pins s σ H E I hf st hg
    subst hP hw hK
    obtain ⟨xs, hq, hx⟩ := hg
    obtain ⟨its, rv, p, hz⟩ := I.list hq
    obtain ⟨f0, f1, f2, f3, f4, f5⟩ := hf it (by simp)
    have hl := rv.length
    exact wpAny_pyNext_list_end (I.ok.hd hc) st p.isList (by simp; omega) fun h' eb => ⟨rfl, I.turned (t' := s.toks) (fun b o hb e => eb b o hb e) f0 f1 f3 f4 f5⟩
  self := fun _ _ _ _ _ st h => wpAny_pyIter_listiter st h
theorem turn_range {P : Program} {w : World} {K : PySem.W.Frag} {tg : Expr} (it : Addr) (lo : Int) (n : Nat) : Turn P w K tg (Itr lo n) [it] it (fun i h => IsRangeIter h it (lo + (i : Nat) * 1) ((n : Int) - (i : Nat)) 1) where
  mem := by simp
  obj := fun i h st b hb => by
    have e : b = it := by simpa using hb
    subst e
    exact ⟨_, st, fun v z => by
      have z' : Data.fields _ = Data.cell v := z
      cases z'⟩
  keep := fun i h h' st k => k it (by simp) _ st
  item := by
    intro X hP hw hK hc i pins s σ H E I hf st hg
    subst hP hw hK
    obtain ⟨f0, f1, f2, f3, f4, f5⟩ := hf it (by simp)
    have W := Walks.range (prog := X.prog) (w := X.w) (I.ok.hd hc) it lo 1 n
    refine W.item i s _ _ hg st fun v h' tk hv st' kk => ?_
    obtain ⟨t, rfl⟩ := hv
    have I1 : Inv X pins σ H { s with heap := h', toks := tk } := I.turned (fun b o hb e => kk b o (by simpa using hb) e) f0 f1 f3 f4 f5
    refine ⟨_, rfl, go_of (s := { s with heap := h', toks := tk }) (n := "range_iterator") st' rfl rfl (by decide) ⟨.int (lo + i), H, I1, ⟨t, ?_⟩, ⟨rfl, rfl⟩, st', fun b hb => (hf b hb).1⟩⟩
    rw [Int.mul_one]
  done := by
    intro X hP hw hK hc i pins s σ H E I hf st hg
    subst hP hw hK
    obtain ⟨f0, f1, f2, f3, f4, f5⟩ := hf it (by simp)
    exact wpAny_pyNext_range_end (I.ok.hd hc) st (by have : n ≤ i := hg; omega) fun h' eb => ⟨rfl, I.turned (t' := s.toks) (fun b o hb e => eb b o hb e) f0 f1 f3 f4 f5⟩
  self := fun _ _ _ _ _ st h => wpAny_pyIter_rangeiter st h
end L2

namespace L2
open PySem PySem.Spec PyProof.Rows
section
variable {X : Cx} {tg : Expr}
noncomputable def iList (K : PySem.W.Frag) (tl : TE) : TI := fun σ H R => tl σ H fun x H1 => ∃ a, x = .ref a ∧ (∃ xs, SqL K H1 a xs) ∧ R (Itl K a) H1
theorem pi_list {l : Expr} {tl : TE} (hl : PE X l tl) : PI X tg l (iList X.K tl) := by
  intro pins s σ H R I h
  refine thn (hl pins s σ H _ I h) fun v s1 zq34 => ?_
  obtain ⟨x, H1, I1, r1, q1⟩ := zq34
  obtain ⟨a, e, ⟨xs, hq⟩, q⟩ := q1
  subst e
  cases r1
  obtain ⟨its, rv, p, hz⟩ := I1.list hq
  refine wpAny_pyIter_list p.isList ?_
  refine ⟨s1.heap.objs.size, [s1.heap.objs.size], _, _, H1, rfl, I1.kept (t' := s1.toks) fun b o e => Heap.get?_push_of_some _ e, turn_list a _, ⟨_, Heap.get?_push_size _ rfl, rfl, rfl⟩, fun b hb => ?_, q⟩
  have e : b = s1.heap.objs.size := by simpa using hb
  subst e
  exact I1.fpOk (Nat.le_refl _) (I1.hok.fresh (Nat.le_refl _))
theorem range_it {pins : List (Addr × Obj)} {σ : St} {H : Hp} {s : Shared} {R : It → Hp → Prop} {E : Value → Shared → Prop} {lo hi : Int} {t u v : Tok} {tk : Nat} (I : Inv X pins σ H s) (h1 : -(2 ^ 62) ≤ lo) (h2 : lo < 2 ^ 62) (h3 : -(2 ^ 62) ≤ hi) (h4 : hi < 2 ^ 62)
    (q : R (Itr lo (hi - lo).toNat) H) : wpAny (model X.prog X.w) X.A (pyIter (.ref s.heap.objs.size)) (PIE X pins σ tg R) E { s with heap := s.heap.push { cls := .type "range", data := .fields #[.int lo t, .int hi u, .int 1 v] }, toks := tk } := by
  refine wpAny_pyIter_range (IsRange.new ..) (small_one h1 h2 h3 h4) ?_
  have I1 : Inv X pins σ H { s with heap := s.heap.push { cls := .type "range", data := .fields #[.int lo t, .int hi u, .int 1 v] }, toks := tk } := I.kept fun b o e => Heap.get?_push_of_some _ e
  refine ⟨(s.heap.push { cls := .type "range", data := .fields #[.int lo t, .int hi u, .int 1 v] }).objs.size, [(s.heap.push { cls := .type "range", data := .fields #[.int lo t, .int hi u, .int 1 v] }).objs.size], _, _, H, rfl,
    I1.kept (t' := tk) fun b o e => Heap.get?_push_of_some _ e, turn_range _ lo (hi - lo).toNat, ?_, fun b hb => ?_, q⟩
  · have e1 : lo + ((0 : Nat) : Int) * 1 = lo := by simp
    have e2 : (((hi - lo).toNat : Nat) : Int) - ((0 : Nat) : Int) = Builtin.Range.rangeSize lo hi 1 := by rw [rangeSize_one]; split <;> omega
    show IsRangeIter _ _ (lo + ((0 : Nat) : Int) * 1) ((((hi - lo).toNat : Nat) : Int) - ((0 : Nat) : Int)) 1
    rw [e1, e2]
    exact Heap.get?_push_size _ rfl
  · have e : b = (s.heap.push { cls := .type "range", data := .fields #[.int lo t, .int hi u, .int 1 v] }).objs.size := by simpa using hb
    subst e
    exact I1.fpOk (Nat.le_refl _) (I1.hok.fresh (Nat.le_refl _))
noncomputable def iRng1 (ta : TA) : TI := fun σ H R => ta σ H fun vs H1 => ∃ j : Int, vs = [.int j] ∧ -(2 ^ 62) ≤ j ∧ j < 2 ^ 62 ∧ R (Itr 0 j.toNat) H1
noncomputable def iRng2 (ta : TA) : TI := fun σ H R => ta σ H fun vs H1 => ∃ i j : Int, vs = [.int i, .int j] ∧ (-(2 ^ 62) ≤ i ∧ i < 2 ^ 62 ∧ -(2 ^ 62) ≤ j ∧ j < 2 ^ 62) ∧ R (Itr i (j - i).toNat) H1
theorem pi_range1 {a : Expr} {ta : TA} {p pos : Pos} (hg : Gl X "range") (hm : X.mg "range" = none) (ha : PA X [a] ta) (hs : starEach [a] X.env = [(false, eval a X.env)] := by rfl) : PI X tg (.Call (.Name "range" p) [a] [] pos) (iRng1 ta) := by
  intro pins s σ H R I h
  refine Call_ (ld_blt I hg hm boot_range (PyProof.Rows.callWith_type1 (thn (ha pos pins s σ H _ I h) fun us s1 zq36 => ?_) hs rfl))
  obtain ⟨vs, H1, I1, r1, q1⟩ := zq36
  obtain ⟨j, e, q1, q2, q⟩ := q1
  subst e
  cases r1 with
  | cons r rr =>
    cases rr
    obtain ⟨t, rfl⟩ := r
    exact call_range_1 (range_it I1 (by omega) (by omega) q1 q2 (by simpa using q))
theorem pi_range2 {a b : Expr} {ta : TA} {p pos : Pos} (hg : Gl X "range") (hm : X.mg "range" = none) (ha : PA X [a, b] ta) (hs : starEach [a, b] X.env = [(false, eval a X.env), (false, eval b X.env)] := by rfl) (hs2 : starEach [b] X.env = [(false, eval b X.env)] := by rfl) :
    PI X tg (.Call (.Name "range" p) [a, b] [] pos) (iRng2 ta) := by
  intro pins s σ H R I h
  refine Call_ (ld_blt I hg hm boot_range (PyProof.Rows.callWith_type1 (thn (ha pos pins s σ H _ I h) fun us s1 zq37 => ?_) (by rw [hs, hs2]) (by rw [hs2]; rfl)))
  obtain ⟨vs, H1, I1, r1, q1⟩ := zq37
  obtain ⟨i, j, e, ⟨q1, q2, q3, q4⟩, q⟩ := q1
  subst e
  cases r1 with
  | cons r rr =>
    cases rr with
    | cons r' rr =>
      cases rr
      obtain ⟨t, rfl⟩ := r
      obtain ⟨t', rfl⟩ := r'
      exact call_range_2 (range_it I1 q1 q2 q3 q4 q)

noncomputable def tFor (wi : TI) (g : TG) (tb : TS) : TS := fun D σ H => wi σ H fun J H1 => ∃ W : Nat → Nat → St → Hp → Prop, (∃ m, W 0 m σ H1) ∧ ∀ i m σ H, W i m σ H →
  (J.stop i H ∧ D.nx σ H) ∨ (J.go i H ∧ ∃ N : St → Hp → Prop, (∀ σ' H', N σ' H' → ∃ m', m' < m ∧ W (i + 1) m' σ' H') ∧ ∀ x H', J.yld i H x H' → g x σ H' fun σ2 H2 => tb { D with nx := N, ct := N, bk := D.nx } σ2 H2)
noncomputable def pinsAt (fp : List Addr) (h : Heap) : List (Addr × Obj) := fp.filterMap fun b => (h.get? b).map fun o => (b, o)
theorem mem_pinsAt {fp : List Addr} {h : Heap} {b : Addr} {o : Obj} (hb : b ∈ fp) (e : h.get? b = some o) : (b, o) ∈ pinsAt fp h := List.mem_filterMap.mpr ⟨b, hb, by rw [e]; rfl⟩
theorem of_pinsAt {fp : List Addr} {h : Heap} {p : Addr × Obj} (hp : p ∈ pinsAt fp h) : p.1 ∈ fp ∧ h.get? p.1 = some p.2 := by
  obtain ⟨b, hb, e⟩ := List.mem_filterMap.mp hp
  cases q : h.get? b with
  | none => rw [q] at e; cases e
  | some o =>
    rw [q] at e
    have e' : (b, o) = p := Option.some.inj e
    subst e'
    exact ⟨hb, q⟩
theorem Inv.pinned {pins : List (Addr × Obj)} {σ : St} {H : Hp} {s : Shared} {fp : List Addr} (I : Inv X pins σ H s) (hf : ∀ b ∈ fp, FpOk X pins H b) (ho : ∀ b ∈ fp, ∃ o, s.heap.get? b = some o ∧ ∀ v, o.data ≠ .cell v) : Inv X (pins ++ pinsAt fp s.heap) σ H s :=
  I.pins_of fun p hp => (List.mem_append.mp hp).elim (fun z => I.pin p (List.mem_append_right _ z)) fun z => by
    obtain ⟨hb, e⟩ := of_pinsAt z
    obtain ⟨f0, f1, f2, _⟩ := hf p.1 hb
    obtain ⟨o, e', d⟩ := ho p.1 hb
    rw [e] at e'; cases e'
    exact ⟨e, f0, f1, f2, d⟩
theorem Inv.unpinned {pins pl : List (Addr × Obj)} {σ : St} {H : Hp} {s : Shared} (I : Inv X (pins ++ pl) σ H s) : Inv X pins σ H s := I.pins_of fun p hp => I.pin p (List.mem_append_right _ (List.mem_append_left _ hp))
theorem ps_for {iter : Expr} {body : List Stmt} {wi : TI} {g : TG} {tb : TS} {pos : Pos} (hp : PassesOwn (model X.prog X.w) X.A X.env X.xe) (hc : X.calm = true) (hi : PI X tg iter wi) (hg : PG X tg g) (hb : PSs X body tb)
    (hs : ∀ x, foldedSetIterable iter X.env x = pure x := by intro _; rfl) : PS X (.For tg iter body [] pos) (tFor wi g tb) := by
  intro pins s σ H D I h
  refine wpAny_For (thn (hi pins s σ H _ I h) fun v s1 h1 => thn h1 fun itv s2 h2 => ?_) hs
  obtain ⟨it, fp, tn, J, H2, e, I2, T, st2, f2, W, ⟨m0, w0⟩, turn⟩ := h2
  subst e
  -- what stays true of the iterator's objects through the loop
  have stat : ∀ {H' : Hp}, (∀ b ∈ fp, H' b = none) → ∀ b ∈ fp, FpOk X pins H' b := fun hn b hb => ⟨hn b hb, (f2 b hb).2⟩
  refine codeAny_forLoop_any (fun n s' => ∃ i σ' H', Inv X pins σ' H' s' ∧ tn i s'.heap ∧ (∀ b ∈ fp, H' b = none) ∧ W i n σ' H') ?_ m0 ⟨0, σ, H2, I2, st2, fun b hb => (f2 b hb).1, w0⟩
  rintro n s3 ⟨i, σ3, H3, I3, st3, fr3, w3⟩
  rcases turn i n σ3 H3 w3 with ⟨stop, qn⟩ | ⟨go, N, hN, step⟩
  · refine wpAny_passesOwn hp (thn (T.done X rfl rfl rfl hc i pins s3 σ3 H3 X.xe I3 (stat fr3) st3 stop) fun r s4 zq38 => ?_)
    obtain ⟨hr, I4⟩ := zq38
    subst hr
    exact wpAny_execs_nil ⟨σ3, H3, I4, qn⟩
  · refine wpAny_passesOwn hp (thn (T.item X rfl rfl rfl hc i pins s3 σ3 H3 X.xe I3 (stat fr3) st3 go) fun r s4 zq39 => ?_)
    obtain ⟨u, hr, h4⟩ := zq39
    subst hr
    refine wpAny_passesOwn hp (thn h4 fun _ s5 zq40 => ?_)
    obtain ⟨x, H5, I5, r5, y5, st5, fr5⟩ := zq40
    have I5' := I5.pinned (stat fr5) (T.obj _ _ st5)
    refine wpAny_passesOwn hp (thn (hg _ s5 σ3 H5 x u _ I5' r5 (step x H5 y5)) fun _ s6 zq41 => ?_)
    obtain ⟨σ6, H6, I6, q6⟩ := zq41
    refine wpAny_passesOwn hp (thn (hb _ s6 σ6 H6 _ I6 q6) fun f s7 q7 => ?_)
    have again : ∀ {σ7 : St} {H7 : Hp}, Inv X (pins ++ pinsAt fp s5.heap) σ7 H7 s7 → N σ7 H7 → ∃ m, m < n ∧ ∃ i σ' H', Inv X pins σ' H' s7 ∧ tn i s7.heap ∧ (∀ b ∈ fp, H' b = none) ∧ W i m σ' H' := fun {σ7 H7} I7 n7 => by
      obtain ⟨m', hm, w7⟩ := hN σ7 H7 n7
      refine ⟨m', hm, i + 1, σ7, H7, I7.unpinned, T.keep _ _ _ st5 fun b hb o e => (I7.pin (b, o) (List.mem_append_right _ (List.mem_append_right _ (mem_pinsAt hb e)))).1, fun b hb => ?_, w7⟩
      obtain ⟨o, e, d⟩ := T.obj _ _ st5 b hb
      exact (I7.pin (b, o) (List.mem_append_right _ (List.mem_append_right _ (mem_pinsAt hb e)))).2.1
    cases f with
    | next => obtain ⟨σ7, H7, I7, n7⟩ := q7; exact again I7 n7
    | cont => obtain ⟨σ7, H7, I7, n7⟩ := q7; exact again I7 n7
    | brk => obtain ⟨σ7, H7, I7, q7⟩ := q7; exact ⟨σ7, H7, I7.unpinned, q7⟩
    | ret v => obtain ⟨x7, σ7, H7, I7, r7, q7⟩ := q7; exact ⟨x7, σ7, H7, I7.unpinned, r7, q7⟩
end

theorem for_list {K : PySem.W.Frag} {a : Addr} {xs : List V} {g : TG} {tb : TS} {D : Ends} {σ : St} {H : Hp} (Pv : Nat → St → Hp → Prop) (h0 : Pv 0 σ H) (hl : ∀ i σ H, i ≤ xs.length → Pv i σ H → SqL K H a xs)
    (hs : ∀ i x σ H, xs[i]? = some x → Pv i σ H → g x σ H fun σ2 H2 => tb { D with nx := Pv (i + 1), ct := Pv (i + 1), bk := D.nx } σ2 H2) (hd : ∀ σ H, Pv xs.length σ H → D.nx σ H) :
    ∃ W : Nat → Nat → St → Hp → Prop, (∃ m, W 0 m σ H) ∧ ∀ i m σ H, W i m σ H →
      ((Itl K a).stop i H ∧ D.nx σ H) ∨ ((Itl K a).go i H ∧ ∃ N : St → Hp → Prop, (∀ σ' H', N σ' H' → ∃ m', m' < m ∧ W (i + 1) m' σ' H') ∧ ∀ x H', (Itl K a).yld i H x H' → g x σ H' fun σ2 H2 => tb { D with nx := N, ct := N, bk := D.nx } σ2 H2) := by
  refine ⟨fun i m σ H => m = xs.length - i ∧ i ≤ xs.length ∧ Pv i σ H, ⟨xs.length, by simp, Nat.zero_le _, h0⟩, ?_⟩
  rintro i m σ H ⟨rfl, hi, p⟩
  have q := hl i σ H hi p
  by_cases hlt : i < xs.length
  · refine .inr ⟨⟨xs, xs[i], q, by simp [hlt]⟩, Pv (i + 1), fun σ' H' p' => ⟨xs.length - (i + 1), by omega, rfl, hlt, p'⟩, fun x H' y => ?_⟩
    obtain ⟨e, y⟩ := y
    subst e
    exact hs i x σ _ (y xs q) p
  · have e : i = xs.length := by omega
    subst e
    exact .inl ⟨⟨xs, q, Nat.le_refl _⟩, hd σ H p⟩
theorem for_range {lo : Int} {n : Nat} {g : TG} {tb : TS} {D : Ends} {σ : St} {H : Hp} (Pv : Nat → St → Hp → Prop) (h0 : Pv 0 σ H)
    (hs : ∀ i σ H, i < n → Pv i σ H → g (.int (lo + i)) σ H fun σ2 H2 => tb { D with nx := Pv (i + 1), ct := Pv (i + 1), bk := D.nx } σ2 H2) (hd : ∀ σ H, Pv n σ H → D.nx σ H) :
    ∃ W : Nat → Nat → St → Hp → Prop, (∃ m, W 0 m σ H) ∧ ∀ i m σ H, W i m σ H →
      ((Itr lo n).stop i H ∧ D.nx σ H) ∨ ((Itr lo n).go i H ∧ ∃ N : St → Hp → Prop, (∀ σ' H', N σ' H' → ∃ m', m' < m ∧ W (i + 1) m' σ' H') ∧ ∀ x H', (Itr lo n).yld i H x H' → g x σ H' fun σ2 H2 => tb { D with nx := N, ct := N, bk := D.nx } σ2 H2) := by
  refine ⟨fun i m σ H => m = n - i ∧ i ≤ n ∧ Pv i σ H, ⟨n, by simp, Nat.zero_le _, h0⟩, ?_⟩
  rintro i m σ H ⟨rfl, hi, p⟩
  by_cases hlt : i < n
  · refine .inr ⟨hlt, Pv (i + 1), fun σ' H' p' => ⟨n - (i + 1), by omega, rfl, hlt, p'⟩, fun x H' y => ?_⟩
    obtain ⟨e, y⟩ := y
    subst e y
    exact hs i σ _ hlt p
  · have e : i = n := by omega
    subst e
    exact .inl ⟨Nat.le_refl _, hd σ H p⟩
end L2

namespace L2
open PySem PySem.Spec PyProof.Rows

noncomputable abbrev R2 := V → V → Hp → VK → Prop
noncomputable def OpR (X : Cx) (f : Value → Value → Sem Value) (r : R2) : Prop :=
  ∀ (pins : List (Addr × Obj)) (s : Shared) (σ : St) (H : Hp) (x y : V) (v u : Value) (Q : VK), Inv X pins σ H s → RelV x v → RelV y u → r x y H Q →
    wpAny (model X.prog X.w) X.A (f v u) (EP X pins σ Q) X.xe s
noncomputable def CallR (X : Cx) (f : Value) (r : List V → Hp → VK → Prop) : Prop :=
  ∀ (pins : List (Addr × Obj)) (s : Shared) (σ : St) (H : Hp) (xs : List V) (us : List Value) (Q : VK), Inv X pins σ H s → Vals xs us → r xs H Q →
    wpAny (model X.prog X.w) X.A (call f us) (EP X pins σ Q) X.xe s
noncomputable def TruR (X : Cx) (r : V → Hp → (Bool → Hp → Prop) → Prop) : Prop :=
  ∀ (pins : List (Addr × Obj)) (s : Shared) (σ : St) (H : Hp) (x : V) (v : Value) (Q : Bool → Hp → Prop), Inv X pins σ H s → RelV x v → r x H Q →
    wpAny (model X.prog X.w) X.A (truthy v) (TP X pins σ Q) X.xe s

noncomputable def tOp (r : R2) (ta tb : TE) : TE := fun σ H Q => ta σ H fun x H1 => tb σ H1 fun y H2 => r x y H2 Q
noncomputable def rI (C : Int → Int → Prop) (g : Int → Int → V) : R2 := fun x y H Q => ∃ i j, x = .int i ∧ y = .int j ∧ C i j ∧ Q (g i j) H
noncomputable def rI0 (g : Int → Int → V) : R2 := fun x y H Q => ∃ i j, x = .int i ∧ y = .int j ∧ Q (g i j) H

section
variable {X : Cx} {a b c : Expr} {ta tb tc : TE} {pos : Pos}

theorem binT (ha : PE X a ta) (hb : PE X b tb) {pins : List (Addr × Obj)} {s : Shared} {σ : St} {H : Hp} {R : V → V → Hp → Prop} (I : Inv X pins σ H s)
    (h : ta σ H fun x H1 => tb σ H1 fun y H2 => R x y H2) {Q : Value → Shared → Prop} {f : Value → Value → Sem Value}
    (hf : ∀ v u s2 x y H2, Inv X pins σ H2 s2 → RelV x v → RelV y u → R x y H2 → wpAny (model X.prog X.w) X.A (f v u) Q X.xe s2) :
    wpAny (model X.prog X.w) X.A (eval a X.env) (fun v s₁ => wpAny (model X.prog X.w) X.A (eval b X.env) (fun u s₂ => wpAny (model X.prog X.w) X.A (f v u) Q X.xe s₂) X.xe s₁) X.xe s := by
  refine thn (ha pins s σ H _ I h) fun v s1 zq42 => ?_
  obtain ⟨x, H1, I1, r1, q1⟩ := zq42
  refine thn (hb pins s1 σ H1 _ I1 q1) fun u s2 zq43 => ?_
  obtain ⟨y, H2, I2, r2, q2⟩ := zq43
  exact hf v u s2 x y H2 I2 r1 r2 q2

theorem pe_op {op : Operator} {r : R2} (ho : OpR X (binaryOp op) r) (ha : PE X a ta) (hb : PE X b tb) : PE X (.BinOp a op b pos) (tOp r ta tb) := by
  intro pins s σ H Q I h
  exact wpAny_BinOp (binT ha hb I h fun v u s2 x y H2 I2 rx ry q => ho pins s2 σ H2 x y v u Q I2 rx ry q)

theorem opI {f : Value → Value → Sem Value} {C : Int → Int → Prop} {g : Int → Int → Int}
    (rule : ∀ (i j : Int) (t u : Tok) (s : Shared) (Q : Value → Shared → Prop) (E : Value → Shared → Prop), C i j → Q (.int (g i j) s.toks) { s with toks := s.toks + 1 } → wpAny (model X.prog X.w) X.A (f (.int i t) (.int j u)) Q E s) :
    OpR X f (rI C fun i j => .int (g i j)) := by
  intro pins s σ H x y v u Q I rx ry h
  obtain ⟨i, j, rfl, rfl, hc, q⟩ := h
  obtain ⟨t, rfl⟩ := rx
  obtain ⟨t', rfl⟩ := ry
  exact rule i j t t' s _ _ hc ⟨.int (g i j), H, I.tok _, ⟨_, rfl⟩, q⟩
theorem opI0 {f : Value → Value → Sem Value} {g : Int → Int → Int}
    (rule : ∀ (i j : Int) (t u : Tok) (s : Shared) (Q : Value → Shared → Prop) (E : Value → Shared → Prop), Q (.int (g i j) s.toks) { s with toks := s.toks + 1 } → wpAny (model X.prog X.w) X.A (f (.int i t) (.int j u)) Q E s) :
    OpR X f (rI0 fun i j => .int (g i j)) := by
  intro pins s σ H x y v u Q I rx ry h
  obtain ⟨i, j, rfl, rfl, q⟩ := h
  obtain ⟨t, rfl⟩ := rx
  obtain ⟨t', rfl⟩ := ry
  exact rule i j t t' s _ _ ⟨.int (g i j), H, I.tok _, ⟨_, rfl⟩, q⟩
theorem opB0 {f : Value → Value → Sem Value} {g : Int → Int → Bool}
    (rule : ∀ (i j : Int) (t u : Tok) (s : Shared) (Q : Value → Shared → Prop) (E : Value → Shared → Prop), Q (.bool (g i j)) s → wpAny (model X.prog X.w) X.A (f (.int i t) (.int j u)) Q E s) :
    OpR X f (rI0 fun i j => .bl (g i j)) := by
  intro pins s σ H x y v u Q I rx ry h
  obtain ⟨i, j, rfl, rfl, q⟩ := h
  obtain ⟨t, rfl⟩ := rx
  obtain ⟨t', rfl⟩ := ry
  exact rule i j t t' s _ _ ⟨.bl (g i j), H, I, rfl, q⟩

noncomputable def CDiv (i j : Int) : Prop := 0 < j ∧ j < 1073741824
noncomputable def CPow (i j : Int) : Prop := 0 ≤ j ∧ j ≤ 1000000 ∧ i.natAbs < 2 ^ 64
noncomputable def CMul (i j : Int) : Prop := (-(2 ^ 64) < i ∧ i < 2 ^ 64) ∨ (-(2 ^ 64) < j ∧ j < 2 ^ 64)
theorem CMul.ok {i j : Int} (h : CMul i j) : IntMulOk i j := by
  rcases h with ⟨h1, h2⟩ | ⟨h1, h2⟩
  · exact .of_left (intBits_le_64 h1 h2)
  · exact .of_right (intBits_le_64 h1 h2)

theorem op_add : OpR X (binaryOp .Add) (rI0 fun i j => .int (i + j)) := opI0 fun _ _ _ _ _ _ _ q => add_int q
theorem op_sub : OpR X (binaryOp .Sub) (rI0 fun i j => .int (i - j)) := opI0 fun _ _ _ _ _ _ _ q => sub_int q
theorem op_mul : OpR X (binaryOp .Mult) (rI CMul fun i j => .int (i * j)) := opI fun _ _ _ _ _ _ _ hc q => mul_int q hc.ok
theorem op_fdiv : OpR X (binaryOp .FloorDiv) (rI CDiv fun i j => .int (i / j)) := opI fun i j _ _ _ _ _ hc q => by
  have h1 : (0 : Int) < j := hc.1
  have h2 : j < 1073741824 := hc.2
  exact floordiv_int (by omega) (by rw [Int.fdiv_eq_ediv_of_nonneg i (by omega)]; exact q) (.inl (PyProof.noPylong_small (by omega)))
theorem op_mod : OpR X (binaryOp .Mod) (rI (fun _ j => 0 < j) fun i j => .int (i % j)) := opI fun i j _ _ _ _ _ hc q => by
  have h1 : (0 : Int) < j := hc
  exact mod_int' (by omega) (by rw [Int.fmod_eq_emod_of_nonneg i (by omega)]; exact q)
theorem op_pow : OpR X (binaryOp .Pow) (rI CPow fun i j => .int (i ^ j.toNat)) := opI fun _ _ _ _ _ _ _ hc q => pow_int_small hc.1 hc.2.1 hc.2.2 q



end

noncomputable def scal : V → V → Bool
  | .non, .non => true | .non, .int _ => true | .int _, .non => true | .non, .bl _ => true | .bl _, .non => true | .non, .str _ => true | .str _, .non => true
  | .int _, .int _ => true | .bl _, .bl _ => true | .str _, .str _ => true | .byt _, .byt _ => true
  | .int _, .str _ => true | .str _, .int _ => true | .bl _, .str _ => true | .str _, .bl _ => true
  | _, _ => false
noncomputable def rEq : R2 := fun x y H Q => scal x y = true ∧ Q (.bl (decide (x = y))) H
noncomputable def rNe : R2 := fun x y H Q => scal x y = true ∧ Q (.bl (!decide (x = y))) H

theorem dec_int {i j : Int} : decide (V.int i = V.int j) = (i == j) := by
  rw [Bool.eq_iff_iff]
  simp
theorem dec_bl {i j : Bool} : decide (V.bl i = V.bl j) = (i == j) := by
  rw [Bool.eq_iff_iff]
  simp
theorem dec_str {i j : Str} : decide (V.str i = V.str j) = (i == j) := by
  rw [Bool.eq_iff_iff]
  simp
theorem dec_byt {i j : Array UInt8} : decide (V.byt i = V.byt j) = (i.toList == j.toList) := by
  rw [Bool.eq_iff_iff]
  cases i
  cases j
  simp

section
variable {X : Cx} {a b c : Expr} {ta tb tc : TE} {pos : Pos}
theorem fin_bl {pins : List (Addr × Obj)} {σ : St} {H : Hp} {s : Shared} {Q : VK} {k k' : Bool} (I : Inv X pins σ H s) (q : Q (.bl k) H) (e : k = k') : EP X pins σ Q (.bool k') s := by
  subst e
  exact ⟨.bl k, H, I, rfl, q⟩
theorem op_eq : OpR X (compareOp .Eq) rEq := by
  intro pins s σ H x y v u Q I rx ry h
  obtain ⟨hs, q⟩ := h
  cases x with
  | non =>
    cases rx
    cases y with
    | non => cases ry; exact PySem.EqNone.eq_none_none (fin_bl I q (by simp))
    | bl j => cases ry; exact PySem.EqNone.eq_none_bool (fin_bl I q (by simp))
    | int j => obtain ⟨t', rfl⟩ := ry; exact PySem.EqNone.eq_none_int (fin_bl I q (by simp))
    | str j => obtain ⟨t', rfl⟩ := ry; exact PySem.EqNone.eq_none_str (fin_bl I q (by simp))
    | _ => exact absurd (show false = true from hs) Bool.false_ne_true
  | bl i =>
    cases rx
    cases y with
    | non => cases ry; exact PySem.EqNone.eq_bool_none (fin_bl I q (by simp))
    | bl j => cases ry; exact eq_bool (fin_bl I q dec_bl)
    | str j => obtain ⟨t', rfl⟩ := ry; exact PySem.EqMixed.eq_bool_str (fin_bl I q (by simp))
    | _ => exact absurd (show false = true from hs) Bool.false_ne_true
  | int i =>
    obtain ⟨t, rfl⟩ := rx
    cases y with
    | non => cases ry; exact PySem.EqNone.eq_int_none (fin_bl I q (by simp))
    | int j => obtain ⟨t', rfl⟩ := ry; exact eq_int (fin_bl I q dec_int)
    | str j => obtain ⟨t', rfl⟩ := ry; exact PySem.EqMixed.eq_int_str (fin_bl I q (by simp))
    | _ => exact absurd (show false = true from hs) Bool.false_ne_true
  | str i =>
    obtain ⟨t, rfl⟩ := rx
    cases y with
    | non => cases ry; exact PySem.EqNone.eq_str_none (fin_bl I q (by simp))
    | bl j => cases ry; exact PySem.EqMixed.eq_str_bool (fin_bl I q (by simp))
    | int j => obtain ⟨t', rfl⟩ := ry; exact PySem.EqMixed.eq_str_int (fin_bl I q (by simp))
    | str j => obtain ⟨t', rfl⟩ := ry; exact eq_str (fin_bl I q dec_str)
    | _ => exact absurd (show false = true from hs) Bool.false_ne_true
  | byt i =>
    obtain ⟨t, rfl⟩ := rx
    cases y with
    | byt j => obtain ⟨t', rfl⟩ := ry; exact PySem.W.eq_bytes (fin_bl I q dec_byt)
    | _ => exact absurd (show false = true from hs) Bool.false_ne_true
  | _ => cases y <;> exact absurd (show false = true from hs) Bool.false_ne_true
theorem op_ne : OpR X (compareOp .NotEq) rNe := by
  intro pins s σ H x y v u Q I rx ry h
  obtain ⟨hs, q⟩ := h
  cases x with
  | non =>
    cases rx
    cases y with
    | non => cases ry; exact PySem.EqNone.ne_none_none (fin_bl I q (by simp))
    | bl j => cases ry; exact PySem.EqNone.ne_none_bool (fin_bl I q (by simp))
    | int j => obtain ⟨t', rfl⟩ := ry; exact PySem.EqNone.ne_none_int (fin_bl I q (by simp))
    | str j => obtain ⟨t', rfl⟩ := ry; exact PySem.EqNone.ne_none_str (fin_bl I q (by simp))
    | _ => exact absurd (show false = true from hs) Bool.false_ne_true
  | bl i =>
    cases rx
    cases y with
    | non => cases ry; exact PySem.EqNone.ne_bool_none (fin_bl I q (by simp))
    | bl j => cases ry; exact ne_bool (fin_bl I q (congrArg not dec_bl))
    | str j => obtain ⟨t', rfl⟩ := ry; exact PySem.EqMixed.ne_bool_str (fin_bl I q (by simp))
    | _ => exact absurd (show false = true from hs) Bool.false_ne_true
  | int i =>
    obtain ⟨t, rfl⟩ := rx
    cases y with
    | non => cases ry; exact PySem.EqNone.ne_int_none (fin_bl I q (by simp))
    | int j => obtain ⟨t', rfl⟩ := ry; exact ne_int (fin_bl I q (congrArg not dec_int))
    | str j => obtain ⟨t', rfl⟩ := ry; exact PySem.EqMixed.ne_int_str (fin_bl I q (by simp))
    | _ => exact absurd (show false = true from hs) Bool.false_ne_true
  | str i =>
    obtain ⟨t, rfl⟩ := rx
    cases y with
    | non => cases ry; exact PySem.EqNone.ne_str_none (fin_bl I q (by simp))
    | bl j => cases ry; exact PySem.EqMixed.ne_str_bool (fin_bl I q (by simp))
    | int j => obtain ⟨t', rfl⟩ := ry; exact PySem.EqMixed.ne_str_int (fin_bl I q (by simp))
    | str j => obtain ⟨t', rfl⟩ := ry; exact ne_str (fin_bl I q (congrArg not dec_str))
    | _ => exact absurd (show false = true from hs) Bool.false_ne_true
  | byt i =>
    obtain ⟨t, rfl⟩ := rx
    cases y with
    | byt j => obtain ⟨t', rfl⟩ := ry; exact PySem.W.ne_bytes (fin_bl I q (congrArg not dec_byt))
    | _ => exact absurd (show false = true from hs) Bool.false_ne_true
  | _ => cases y <;> exact absurd (show false = true from hs) Bool.false_ne_true

theorem op_lt : OpR X (compareOp .Lt) (rI0 fun i j => .bl (decide (i < j))) := opB0 fun _ _ _ _ _ _ _ q => lt_int q
theorem op_le : OpR X (compareOp .LtE) (rI0 fun i j => .bl (decide (i ≤ j))) := opB0 fun _ _ _ _ _ _ _ q => le_int q
theorem op_gt : OpR X (compareOp .Gt) (rI0 fun i j => .bl (decide (j < i))) := opB0 fun _ _ _ _ _ _ _ q => gt_int q
theorem op_ge : OpR X (compareOp .GtE) (rI0 fun i j => .bl (decide (j ≤ i))) := opB0 fun _ _ _ _ _ _ _ q => ge_int q
theorem op_in_str : OpR X (compareOp .In) (fun x y H Q => ∃ i j, x = .str i ∧ y = .str j ∧ Q (.bl (!(Builtin.Str.occurrences j i 0 j.length 1).isEmpty)) H) := by
  intro pins s σ H x y v u Q I rx ry h
  obtain ⟨i, j, rfl, rfl, q⟩ := h
  obtain ⟨t, rfl⟩ := rx
  obtain ⟨t', rfl⟩ := ry
  exact in_str (fin_bl I q rfl)

theorem op_isN : OpR X (compareOp .Is) (fun x y H Q => y = .non ∧ Q (.bl (decide (x = .non))) H) := by
  intro pins s σ H x y v u Q I rx ry h
  obtain ⟨rfl, q⟩ := h
  cases ry
  refine is_none_gen (fin_bl I q ?_)
  cases x <;> first
    | (cases rx; rfl)
    | (obtain ⟨t, rfl⟩ := rx; rfl)
theorem op_notN : OpR X (compareOp .IsNot) (fun x y H Q => y = .non ∧ Q (.bl (!decide (x = .non))) H) := by
  intro pins s σ H x y v u Q I rx ry h
  obtain ⟨rfl, q⟩ := h
  cases ry
  refine isnot_none_gen (fin_bl I q ?_)
  cases x <;> first
    | (cases rx; rfl)
    | (obtain ⟨t, rfl⟩ := rx; rfl)



theorem nomark (b : Expr) {op : CmpOp} (h : op ≠ .In := by decide) (h2 : op ≠ .NotIn := by decide) : behindInMarks op b = false := by
  have e1 : (op == CmpOp.In) = false := by cases op <;> first | rfl | exact absurd rfl h
  have e2 : (op == CmpOp.NotIn) = false := by cases op <;> first | rfl | exact absurd rfl h2
  cases b <;> simp [behindInMarks, e1, e2]
theorem pe_cmpR {op : CmpOp} {r : R2} (ho : OpR X (compareOp op) r) (ha : PE X a ta) (hb : PE X b tb) (hm : behindInMarks op b = false) : PE X (.Compare a [op] [b] pos) (tOp r ta tb) := by
  intro pins s σ H Q I h
  exact wpAny_Compare1 (binT ha hb I h fun v u s2 x y H2 I2 rx ry q => ho pins s2 σ H2 x y v u Q I2 rx ry q) hm
noncomputable def tTest (t : TE) : TT := fun σ H Q => t σ H fun x H' => ∃ k, x = .bl k ∧ Q k H'
theorem pt_cmpR {op : CmpOp} {r : R2} (ho : OpR X (compareOp op) r) (ha : PE X a ta) (hb : PE X b tb) (hm : behindInMarks op b = false) : PT X (.Compare a [op] [b] pos) (tTest (tOp r ta tb)) := by
  intro pins s σ H Q I h
  refine wpAny_isTrue_Compare1 (thn (ha pins s σ H _ I h) fun v s1 ⟨x, H1, I1, r1, q1⟩ => thn (hb pins s1 σ H1 _ I1 q1) fun u s2 ⟨y, H2, I2, r2, q2⟩ =>
    thn (ho pins s2 σ H2 x y v u _ I2 r1 r2 q2) fun c s3 ⟨z, H3, I3, r3, k, e, q3⟩ => ?_) hm
  subst e
  cases r3
  exact wpAny_truthy_bool ⟨H3, I3, q3⟩
noncomputable def tChain (r r' : R2) (ta tb tc : TE) : TE := fun σ H Q => ta σ H fun x H1 => tb σ H1 fun y H2 => r x y H2 fun z H3 => ∃ k, z = .bl k ∧
  (if k = true then tc σ H3 fun w' H4 => r' y w' H4 Q else Q (.bl false) H3)
theorem pt_chain {op op' : CmpOp} {r r' : R2} (ho : OpR X (compareOp op) r) (ho' : OpR X (compareOp op') r') (ha : PE X a ta) (hb : PE X b tb) (hc : PE X c tc)
    (hm : lastMarks [op, op'] [b, c] = false := by with_unfolding_all rfl) : PT X (.Compare a [op, op'] [b, c] pos) (tTest (tChain r r' ta tb tc)) := by
  intro pins s σ H Q I h
  refine isTrue_chain (thn (ha pins s σ H _ I h) fun v s1 ⟨x, H1, I1, r1, q1⟩ => test_link (thn (hb pins s1 σ H1 _ I1 q1) fun u s2 ⟨y, H2, I2, r2, q2⟩ =>
    thn (ho pins s2 σ H2 x y v u _ I2 r1 r2 q2) fun d s3 ⟨z, H3, I3, r3, k, e, q3⟩ => ?_)) hm
  subst e
  cases r3
  refine wpAny_truthy_bool ?_
  cases k with
  | false =>
    obtain ⟨k', e', q'⟩ := q3
    cases e'
    exact ite_ff ⟨H3, I3, q'⟩
  | true =>
    refine ite_tt (test_last (thn (hc pins s3 σ H3 _ I3 q3) fun w' s4 ⟨z', H4, I4, r4, q4⟩ => thn (ho' pins s4 σ H4 y z' u w' _ I4 r2 r4 q4) fun d' s5 zq46 => ?_))
    obtain ⟨z2, H5, I5, r5, k2, e2, q5⟩ := zq46
    subst e2
    cases r5
    exact wpAny_truthy_bool ⟨H5, I5, q5⟩

noncomputable def TruV (K : PySem.W.Frag) (x : V) (H : Hp) (k : Bool) : Prop :=
  match x with
  | .non => k = false
  | .bl b => k = b
  | .int i => k = (i != 0)
  | .str y => y.length ≤ sizeLine ∧ k = ((y.length : Int) != 0)
  | .byt y => y.size ≤ sizeLine ∧ k = ((y.size : Int) != 0)
  | .ref p => (∃ xs, SqL K H p xs ∧ k = !xs.isEmpty) ∨ (∃ xs, SqT K H p xs ∧ k = !xs.isEmpty) ∨ ∃ kvs, H p = some (.dK kvs) ∧ k = !kvs.isEmpty
  | _ => False
theorem isEmpty_kv {κ : Type} {kvs : List (κ × V)} {vs : List (κ × Value)} (r : KV kvs vs) : (!vs.isEmpty) = !kvs.isEmpty := by
  cases r <;> rfl
theorem isEmpty_of {xs : List V} {its : List Value} (r : Vals xs its) : (!its.toArray.isEmpty) = !xs.isEmpty := by
  cases r <;> simp
theorem line63 : (sizeLine : Nat) < 2 ^ 63 := by rw [sizeLine_eq]; decide
theorem tru_ok : TruR X (fun x H Q => ∃ k, TruV X.K x H k ∧ Q k H) := by
  intro pins s σ H x v Q I rx h
  obtain ⟨k, e, q⟩ := h
  have hl := line63
  have hs : sizeLine = 16777216 := sizeLine_eq
  cases x with
  | non =>
    cases rx
    have e' : k = false := e
    subst e'
    exact truthy_none ⟨H, I, q⟩
  | bl b =>
    cases rx
    have e' : k = b := e
    subst e'
    exact wpAny_truthy_bool ⟨H, I, q⟩
  | int i =>
    obtain ⟨t, rfl⟩ := rx
    have e' : k = (i != 0) := e
    subst e'
    exact PySem.P.truthy_int ⟨H, I, q⟩
  | str y =>
    obtain ⟨t, rfl⟩ := rx
    obtain ⟨hy, e'⟩ : y.length ≤ sizeLine ∧ k = ((y.length : Int) != 0) := e
    subst e'
    exact PySem.P.truthy_str (by omega) ⟨H, I.tok _, q⟩
  | byt y =>
    obtain ⟨t, rfl⟩ := rx
    obtain ⟨hy, e'⟩ : y.size ≤ sizeLine ∧ k = ((y.size : Int) != 0) := e
    subst e'
    exact PySem.W.truthy_bytes (by omega) ⟨H, I.tok _, q⟩
  | ref p =>
    cases rx
    have e' : (∃ xs, SqL X.K H p xs ∧ k = !xs.isEmpty) ∨ (∃ xs, SqT X.K H p xs ∧ k = !xs.isEmpty) ∨ ∃ kvs, H p = some (.dK kvs) ∧ k = !kvs.isEmpty := e
    rcases e' with ⟨xs, hx, e'⟩ | ⟨xs, hx, e'⟩ | ⟨kvs, hx, e'⟩
    · subst e'
      obtain ⟨its, r, pl, hz⟩ := I.list hx
      have hlen := r.length
      exact wpAny_truthy_list pl.isList (by simp only [List.size_toArray]; omega) ⟨H, I.tok _, by rw [isEmpty_of r]; exact q⟩
    · subst e'
      obtain ⟨its, r, pl, hz⟩ := I.tuple hx
      have hlen := r.length
      exact truthy_tuple pl (by simp only [List.size_toArray]; omega) ⟨H, I.tok _, by rw [isEmpty_of r]; exact q⟩
    · subst e'
      obtain ⟨hz, hS, vs, r, m⟩ : kvs.length ≤ sizeLine ∧ (p == sysModules) = false ∧ ∃ vs, KV kvs vs ∧ s.heap.DictOf (mixKind X.prog X.w) p vs := I.hok p _ hx
      have hlen : kvs.length = vs.length := Paired.length r
      exact wpAny_truthy_dict hS m (by omega) ⟨H, I.tok _, by rw [isEmpty_kv r]; exact q⟩
  | _ => exact (show False from e).elim
theorem pt_truth (ha : PE X a ta) (he : ∀ whole, isTrue a X.env whole = (do let v ← whole; standAt a.pos; holding [v] (truthy v))) :
    PT X a (fun σ H Q => ta σ H fun x H' => ∃ k, TruV X.K x H' k ∧ Q k H') := by
  intro pins s σ H Q I h
  exact isTrue_plain (thn (ha pins s σ H _ I h) fun v s1 zq47 => (by obtain ⟨x, H1, I1, r1, q1⟩ := zq47; exact tru_ok pins s1 σ H1 x v Q I1 r1 q1)) (he _)

theorem op_add_str : OpR X (binaryOp .Add) (fun x y H Q => ∃ i j, x = .str i ∧ y = .str j ∧ i.length + j.length ≤ sizeLine ∧ Q (.str (i ++ j)) H) := by
  intro pins s σ H x y v u Q I rx ry h
  obtain ⟨i, j, rfl, rfl, hz, q⟩ := h
  obtain ⟨t, rfl⟩ := rx
  obtain ⟨t', rfl⟩ := ry
  exact add_str (fun t' tk => ⟨.str (i ++ j), H, I.tok _, ⟨_, rfl⟩, q⟩) hz


theorem vals1 {x : V} {us : List Value} (r : Vals [x] us) : ∃ u, us = [u] ∧ RelV x u := by
  cases r with
  | cons r1 r2 => cases r2; exact ⟨_, rfl, r1⟩
theorem vals2 {x y : V} {us : List Value} (r : Vals [x, y] us) : ∃ u w', us = [u, w'] ∧ RelV x u ∧ RelV y w' := by
  cases r with
  | cons r1 r2 =>
    cases r2 with
    | cons r3 r4 => cases r4; exact ⟨_, _, rfl, r1, r3⟩
theorem call_int1 : CallR X (.type "int") (fun xs H Q => (∃ i, xs = [.int i] ∧ Q (.int i) H) ∨ ∃ k, xs = [.bl k] ∧ Q (.int (if k then 1 else 0)) H) := by
  intro pins s σ H xs us Q I r h
  rcases h with ⟨i, rfl, q⟩ | ⟨k, rfl, q⟩
  · obtain ⟨u, rfl, t, rfl⟩ := vals1 r
    exact call_int_int ⟨.int i, H, I, ⟨_, rfl⟩, q⟩
  · obtain ⟨u, rfl, r1⟩ := vals1 r
    cases r1
    exact call_int_bool ⟨.int (if k then 1 else 0), H, I.tok _, ⟨_, rfl⟩, q⟩
theorem call_str_int : CallR X (.type "str") (fun xs H Q => ∃ i, xs = [.int i] ∧ i.natAbs.log2 < 1920 ∧ Q (.str (toString i)) H) := by
  intro pins s σ H xs us Q I r h
  obtain ⟨i, rfl, hz, q⟩ := h
  obtain ⟨u, rfl, t, rfl⟩ := vals1 r
  exact PySem.P.str_of_int hz ⟨.str _, H, I.tok _, ⟨_, rfl⟩, q⟩
end
end L2

namespace L2
open PySem PySem.Spec PyProof.Rows

structure ObjM (h : Heap) (x dx C : Addr) (mA : Str → Option Value) : Prop where
  obj : h.get? x = some (PySem.W.instObj C dx)
  ns : h.Ns1 dx mA
  ne : dx ≠ x

theorem lookIn_ns {h : Heap} {dx : Addr} {mA : Str → Option Value} (n : h.Ns1 dx mA) : ∃ od, h.get? dx = some od ∧ ∀ name, PySem.W.lookIn name od = some (mA name) := by
  obtain ⟨o, es, ep, ho, hd, hk, _, hm⟩ := n
  refine ⟨o, ho, fun name => ?_⟩
  have e := hm name
  unfold nsFind findBy at e
  rw [← Array.find?_toList] at e
  unfold PySem.W.lookIn
  rw [hd]
  dsimp only
  split
  · rename_i y q
    rw [q] at e
    exact congrArg some e
  · rename_i q
    rw [q] at e
    have a : es.toList.any (·.refKey) = false := by
      rw [List.any_eq_false]
      intro y hy
      obtain ⟨z, t, hkey⟩ := hk y (Array.mem_toList_iff.mp hy)
      simp [DictEntry.refKey, hkey]
    have a' : ¬ es.toList.any (·.refKey) = true := by rw [a]; exact Bool.false_ne_true
    rw [if_neg a']
    exact congrArg some e

theorem ObjM.look {h : Heap} {x dx C : Addr} {mA : Str → Option Value} (I : ObjM h x dx C mA) : ∃ od, PySem.W.InstAt h x (PySem.W.instObj C dx) C (some od) ∧ ∀ name, PySem.W.lookIn name od = some (mA name) :=
  let ⟨od, ho, hl⟩ := lookIn_ns I.ns
  ⟨od, ⟨I.obj, rfl, rfl, ho⟩, hl⟩

section
variable {prog : Program} {w : World} {A : Around} {E : Value → Shared → Prop} {s : Shared} {K : PySem.W.Frag} {x dx C f : Addr} {mA : Str → Option Value} {name : Str} {v : Value}





end

noncomputable def putF (f : Str) (v : V) : List (Str × V) → List (Str × V)
  | [] => [(f, v)]
  | (g, x) :: r => if g = f then (g, v) :: r else (g, x) :: putF f v r
theorem lookup_putF (f g : Str) (v : V) : ∀ fs : List (Str × V), (putF f v fs).lookup g = if g = f then some v else fs.lookup g
  | [] => by
    show List.lookup g [(f, v)] = _
    by_cases h : g = f
    · have hb : (g == f) = true := beq_iff_eq.mpr h
      simp only [List.lookup, hb, if_pos h]
    · have hb : (g == f) = false := beq_eq_false_iff_ne.mpr h
      simp only [List.lookup, hb, if_neg h]
  | (k, x) :: r => by
    have ih := lookup_putF f g v r
    rw [show putF f v ((k, x) :: r) = (if k = f then (k, v) :: r else (k, x) :: putF f v r) from rfl]
    by_cases hk : k = f
    · rw [if_pos hk]
      by_cases h : g = k
      · have hb : (g == k) = true := beq_iff_eq.mpr h
        simp only [List.lookup, hb, if_pos (h.trans hk)]
      · have hb : (g == k) = false := beq_eq_false_iff_ne.mpr h
        simp only [List.lookup, hb, if_neg (fun e : g = f => h (e.trans hk.symm))]
    · rw [if_neg hk]
      by_cases h : g = k
      · have hb : (g == k) = true := beq_iff_eq.mpr h
        simp only [List.lookup, hb, if_neg (fun e : g = f => hk (h.symm.trans e))]
      · have hb : (g == k) = false := beq_eq_false_iff_ne.mpr h
        simp only [List.lookup, hb]
        exact ih
theorem keys_putF (f : Str) (v : V) : ∀ fs : List (Str × V), f ∈ (putF f v fs).map (·.1) ∧ ∀ g, g ∈ fs.map (·.1) → g ∈ (putF f v fs).map (·.1)
  | [] => ⟨by simp [putF], fun g h => by simp at h⟩
  | (k, x) :: r => by
    obtain ⟨i1, i2⟩ := keys_putF f v r
    rw [show putF f v ((k, x) :: r) = (if k = f then (k, v) :: r else (k, x) :: putF f v r) from rfl]
    by_cases hk : k = f
    · rw [if_pos hk]
      subst hk
      exact ⟨by simp, fun g h => by simpa using h⟩
    · rw [if_neg hk]
      refine ⟨?_, fun g h => ?_⟩
      · rw [List.map_cons]
        exact List.mem_cons_of_mem _ i1
      · rw [List.map_cons] at h ⊢
        rcases List.mem_cons.mp h with e | e
        · exact List.mem_cons.mpr (.inl e)
        · exact List.mem_cons_of_mem _ (i2 g e)

theorem RelO.some_of {v : V} {o : Option Value} (r : RelO (some v) o) : ∃ u, o = some u ∧ RelV v u := by
  cases o with
  | none => exact (show False from r).elim
  | some u => exact ⟨u, rfl, r⟩
theorem handed_of {v : V} {u : Value} (r : RelV v u) : PySem.W.handedIn u = true := by
  cases v with
  | non => cases (show u = Value.none from r); rfl
  | bl b => cases (show u = Value.bool b from r); rfl
  | int i => obtain ⟨t, e⟩ := (show ∃ t, u = Value.int i t from r); cases e; rfl
  | str x => obtain ⟨t, e⟩ := (show ∃ t, u = Value.str x t from r); cases e; rfl
  | byt b => obtain ⟨t, e⟩ := (show ∃ t, u = Value.bytes b t from r); cases e; rfl
  | flt b => obtain ⟨t, e⟩ := (show ∃ t, u = Value.float b t from r); cases e; rfl
  | ref a => cases (show u = Value.ref a from r); rfl
  | ty n => cases (show u = Value.type n from r); rfl

section
variable {P : Program} {w : World} {H H' : Hp} {h h' : Heap} {a C dx : Addr} {fs fs' : List (Str × V)}
theorem ins_get (hok : HOk P w H h) (e : H a = some (.ins C dx fs)) : ∃ mA, ObjM h a dx C mA ∧ (∀ f, RelO (fs.lookup f) (mA f)) ∧ PySem.Within mA (fs.map (·.1)) ∧ fs.length ≤ 1000 ∧ H dx = some (.own a) := by
  obtain ⟨d, z, ne, ob, mA, n, r, q⟩ := (show ObjOk P w H h a (.ins C dx fs) from hok a _ e)
  exact ⟨mA, ⟨ob, n, ne⟩, r, q, z, d⟩
end

structure Cls (K : PySem.W.Frag) (C : Addr) : Prop where
  pg : PySem.W.plainGet K C Str.empty = true
  hd : PySem.W.hasDictIn K C = true
  po : PySem.W.plainOver K C = true
  sa : PySem.W.findIn K (.ref C) "__setattr__" = some (some (.builtin "object.__setattr__"))
theorem Cls.get {K : PySem.W.Frag} {C : Addr} (c : Cls K C) (f : Str) : PySem.W.plainGet K C f = true := c.pg

section
variable {X : Cx} {pins : List (Addr × Obj)} {σ : St} {H : Hp} {s : Shared} {a C dx : Addr} {fs : List (Str × V)} {f : Str} {v : V} {A : Around} {E : Value → Shared → Prop}






theorem attr_of {prog : Program} {w : World} {env : Env} {e : Expr} {f : Str} {pos : Pos} {s : Shared} {Q : Value → Shared → Prop} (hb : attributeBase e f env (eval e env) = eval e env)
    (h : wpAny (model prog w) A (eval e env) (fun o s₁ => wpAny (model prog w) A (getAttr o f true) Q E s₁) E s) : wpAny (model prog w) A (eval (.Attribute e f pos) env) Q E s :=
  Attribute_any_ h (by rw [arm_eval_Attribute, hb])
end


section
variable {X : Cx} {o e value : Expr} {f : Str} {pos pos' tpos : Pos} {ta tv : TE}

end

section
variable {X : Cx} {pins : List (Addr × Obj)} {σ : St} {H : Hp} {s : Shared} {A : Around} {E : Value → Shared → Prop} {Q : Value → Shared → Prop} {c : Value} {b : Bool}
inductive TyOf (K : PySem.W.Frag) (H : Hp) : V → Value → Prop where
  | non : TyOf K H .non (.type "NoneType")
  | bl (x : Bool) : TyOf K H (.bl x) (.type "bool")
  | int (i : Int) : TyOf K H (.int i) (.type "int")
  | str (x : Str) : TyOf K H (.str x) (.type "str")
  | flt (x : UInt64) : TyOf K H (.flt x) (.type "float")
  | lst {a : Addr} {xs : List V} (e : H a = some (.lst xs)) : TyOf K H (.ref a) (.type "list")
  | frz {a : Addr} {o : Obj} {xs : List V} (e : H a = some (.frz o (.lst xs))) : TyOf K H (.ref a) (.type "list")
  | tup {a : Addr} {xs : List V} (e : H a = some (.tup xs)) : TyOf K H (.ref a) (.type "tuple")
  | dK {a : Addr} {kvs : List (Key × V)} (e : H a = some (.dK kvs)) : TyOf K H (.ref a) (.type "dict")
  | dT {a : Addr} {kvs : List (List Key × V)} (e : H a = some (.dT kvs)) : TyOf K H (.ref a) (.type "dict")
  | ins {a C dx : Addr} {fs : List (Str × V)} (e : H a = some (.ins C dx fs)) (cl : Cls K C) (ha : PySem.W.findIn K (.ref C) "__class__" = some (some (.builtin "object.__class__")))
      (hn : PySem.W.specialIn K (.builtin "object.__class__") "__get__" = some (some (.builtin "getset_descriptor.__get__"))) (htk : PySem.W.takesIn K (.builtin "object.__class__") = some true)
      (hm : PySem.W.mroIn K C (.type "object") = some true) : TyOf K H (.ref a) (.ref C)
theorem isinst_ok {x : V} {u t : Value} (I : Inv X pins σ H s) (rx : RelV x u) (ty : TyOf X.K H x t) (e : PySem.W.kitOne X.K t c = some b) (h : ∀ tk, Q (.bool b) { s with toks := tk }) :
    wpAny (model X.prog X.w) A (call (.builtin "isinstance") [u, c]) Q E s := by
  cases ty with
  | non => cases (show u = Value.none from rx); exact PySem.W.kia_one PySem.W.kitx_none I.kIn True.intro e (fun z => nomatch z) h
  | bl y => cases (show u = Value.bool y from rx); exact PySem.W.kia_one PySem.W.kitx_bool I.kIn True.intro e (fun z => nomatch z) h
  | int i => obtain ⟨t, q⟩ := (show ∃ t, u = Value.int i t from rx); cases q; exact PySem.W.kia_one PySem.W.kitx_int I.kIn True.intro e (fun z => nomatch z) h
  | str y => obtain ⟨t, q⟩ := (show ∃ t, u = Value.str y t from rx); cases q; exact PySem.W.kia_one PySem.W.kitx_str I.kIn True.intro e (fun z => nomatch z) h
  | flt y => obtain ⟨t, q⟩ := (show ∃ t, u = Value.float y t from rx); cases q; exact PySem.W.kia_one PySem.W.kitx_float I.kIn True.intro e (fun z => nomatch z) h
  | @lst a xs ea =>
    cases (show u = Value.ref a from rx)
    obtain ⟨_, _, n, _, h1⟩ := (show ObjOk X.prog X.w H s.heap a (.lst xs) from I.hok a _ ea)
    exact PySem.W.kia_one PySem.W.kitx_list I.kIn ⟨_, h1, rfl⟩ e (fun z => nomatch z) h
  | @frz a ob xs ea =>
    cases (show u = Value.ref a from rx)
    obtain ⟨_, _, _, n, _, h1⟩ := (show ObjOk X.prog X.w H s.heap a (.frz ob (.lst xs)) from I.hok a _ ea)
    exact PySem.W.kia_one PySem.W.kitx_list I.kIn ⟨_, h1, rfl⟩ e (fun z => nomatch z) h
  | @tup a xs ea =>
    cases (show u = Value.ref a from rx)
    obtain ⟨_, _, _, p⟩ := (show ObjOk X.prog X.w H s.heap a (.tup xs) from I.hok a _ ea)
    obtain ⟨o, h1, h2, _⟩ := p
    exact PySem.W.kia_one PySem.W.kitx_tuple I.kIn ⟨o, h1, h2⟩ e (fun z => nomatch z) h
  | @dK a kvs ea =>
    cases (show u = Value.ref a from rx)
    obtain ⟨_, _, vs, _, p⟩ := (show ObjOk X.prog X.w H s.heap a (.dK kvs) from I.hok a _ ea)
    obtain ⟨o, es, ep, h1, h2, _⟩ := p
    exact PySem.W.kia_one PySem.W.kitx_dict I.kIn ⟨o, h1, h2.1⟩ e (fun z => nomatch z) h
  | @dT a kvs ea =>
    cases (show u = Value.ref a from rx)
    obtain ⟨_, _, xs, _, o, es, ep, h1, h2, _⟩ := (show ObjOk X.prog X.w H s.heap a (.dT kvs) from I.hok a _ ea)
    exact PySem.W.kia_one PySem.W.kitx_dict I.kIn ⟨o, h1, h2.1⟩ e (fun z => nomatch z) h
  | @ins a C dx fs ea cl ha hn htk hm =>
    cases (show u = Value.ref a from rx)
    obtain ⟨mA, O, _⟩ := ins_get I.hok ea
    obtain ⟨od, J, _⟩ := O.look
    exact PySem.W.kia_one (PySem.W.kitx_own (cl.get _) cl.hd ha hn htk hm) I.kIn J e (fun z => nomatch z) h
end
end L2

namespace L2
open PySem PySem.Spec PyProof.Rows

structure Room (k : Nat) (A : Around) : Prop where
  hd : A.handled = none
  dp : A.depth + 3 * k + 5 < recursionLimit
  un : A.units + 16 * k + 200 < cLine
  gd : A.guards = some []
theorem Room.mono {j k : Nat} {A : Around} (r : Room k A) (h : j ≤ k) : Room j A := ⟨r.hd, by have := r.dp; omega, by have := r.un; omega, r.gd⟩
theorem Room.deeper {k : Nat} {A : Around} (r : Room (k + 1) A) (env : Env) : Room k (A.deeper env) :=
  ⟨r.hd, by have := r.dp; show A.depth + 1 + 3 * k + 5 < _; omega, by have := r.un; show A.units + 3 + 16 * k + 200 < _; omega, r.gd⟩
theorem make_depth {A : Around} {C : Addr} {us : List Value} {kw : List (Str × Value)} : (A.under (.builtin "type.__call__" ⟨.ref C :: us, kw⟩)).depth = A.depth + 1 := by
  first | rfl | simp [Around.under, Code.weight, Code.isCreation, Code.isGuard, Code.isCaller, Code.frames, Code.isFrame, guardIds]
theorem make_units {A : Around} {C : Addr} {us : List Value} {kw : List (Str × Value)} : (A.under (.builtin "type.__call__" ⟨.ref C :: us, kw⟩)).units = A.units + 1 := by
  first | rfl | simp [Around.under, Code.cUnits, Code.frames, Code.isFrame]
theorem Room.make {k : Nat} {A : Around} (r : Room (k + 1) A) (C : Addr) (us : List Value) (kw : List (Str × Value)) : Room k (A.under (.builtin "type.__call__" ⟨.ref C :: us, kw⟩)) :=
  ⟨r.hd, by have := r.dp; rw [make_depth]; omega, by have := r.un; rw [make_units]; omega, by have g := r.gd; simpa [Around.under, Code.guards, pushGuards, Code.isGuard, guardIds] using g⟩
theorem Room.depth {k : Nat} {A : Around} (r : Room k A) : A.depth < recursionLimit := by have := r.dp; omega
theorem Room.units {k : Nat} {A : Around} (r : Room k A) : A.units + 64 < cLine := by have := r.un; omega

noncomputable def tNil : TA := fun _ H Q => Q [] H
noncomputable def tCons (ta : TE) (tr : TA) : TA := fun σ H Q => ta σ H fun x H1 => tr σ H1 fun xs H2 => Q (x :: xs) H2
section
variable {X : Cx} {e : Expr} {es : List Expr} {te : TE} {t : TA} {pos : Pos}
theorem pa_nil : PA X [] tNil := fun _ _ _ _ H Q I h => Calls.spliced_nil ⟨[], H, I, .nil, h⟩
theorem pa_cons (ha : PE X e te) (hr : PA X es t) (hs : starEach (e :: es) X.env = (false, eval e X.env) :: starEach es X.env := by rfl) : PA X (e :: es) (tCons te t) := by
  intro pos pins s σ H Q I h
  rw [hs]
  show wpAny _ _ (spliced ((false, eval e X.env) :: backTo pos (starEach es X.env))) _ _ s
  refine Calls.spliced_cons (thn (ha pins s σ H _ I h) fun u s1 zq54 => ?_)
  obtain ⟨x, H1, I1, r1, q1⟩ := zq54
  exact thn (hr pos pins s1 σ H1 _ I1 q1) fun us s2 zq55 => (by obtain ⟨xs, H2, I2, r2, q2⟩ := zq55; exact ⟨x :: xs, H2, I2, .cons r1 r2, q2⟩)

noncomputable def tTup (t : TA) : TE := fun σ H Q => t σ H fun xs H1 => xs.length ≤ sizeLine ∧ ∀ p, H1 p = none → Q (.ref p) (upd H1 p (.tup xs))
noncomputable def tLst (t : TA) : TE := fun σ H Q => t σ H fun xs H1 => xs.length ≤ sizeLine ∧ ∀ p, H1 p = none → Q (.ref p) (upd H1 p (.lst xs))
theorem pe_tup {x1} (h : PA X es t) : PE X (.Tuple es x1 pos) (tTup t) := by
  intro pins s σ H Q I hq
  refine wpAny_Tuple_spliced (thn (h pos pins s σ H _ I hq) fun us s1 ⟨xs, H1, I1, r, z, q⟩ => ⟨by rw [← r.length]; exact z, ?_⟩)
  have hf : H1 s1.heap.objs.size = none := I1.hok.fresh (Nat.le_refl _)
  refine ⟨.ref s1.heap.objs.size, upd H1 s1.heap.objs.size (.tup xs), I1.laid (t' := s1.toks) (fun b u e => Heap.get?_push_of_some _ e) (Nat.le_refl _) ?_, rfl, q _ hf⟩
  exact ⟨z, us, r, ⟨_, Heap.get?_push_size _ rfl, rfl, _, rfl⟩⟩
theorem pe_lst (h : PA X es t) : PE X (.List es pos) (tLst t) := by
  intro pins s σ H Q I hq
  refine wpAny_List_spliced (thn (h pos pins s σ H _ I hq) fun us s1 ⟨xs, H1, I1, r, z, q⟩ => ⟨by rw [← r.length]; exact z, ?_⟩)
  have hf : H1 s1.heap.objs.size = none := I1.hok.fresh (Nat.le_refl _)
  refine ⟨.ref s1.heap.objs.size, upd H1 s1.heap.objs.size (.lst xs), I1.laid (t' := s1.toks) (fun b u e => Heap.get?_push_of_some _ e) (Nat.le_refl _) ?_, rfl, q _ hf⟩
  exact ⟨z, us, 0, r, Heap.get?_push_size _ rfl⟩
end

noncomputable abbrev Sp := List V → Hp → VK → XK → Prop
noncomputable abbrev CXT := List Env → Hp → Shared → XK → Value → Shared → Prop

structure Env0 (P : Program) (w : World) (K : PySem.W.Frag) (mg : Str → Option Value) (base : Heap) (A : Around) (outer : List Env) (s : Shared) (H : Hp) : Prop where
  frames : A.frames = some outer
  mod : Mod K mg base
  bs : ∀ b o, base.get? b = some o → s.heap.get? b = some o ∧ H b = none
  bsz : base.objs.size ≤ s.heap.objs.size
  funs : s.heap.FunFrames base outer
  frf : ∀ b ∈ frs outer, H b = none
  hok : HOk P w H s.heap
  bare : AllBare s.gens
noncomputable def CE (outer : List Env) (P : Program) (w : World) (H : Hp) (s : Shared) (Q : VK) (u : Value) (s' : Shared) : Prop :=
  ∃ v H', s'.os = s.os ∧ AllBare s'.gens ∧ Un (frs outer) [] H H' s.heap s'.heap ∧ HOk P w H' s'.heap ∧ RelV v u ∧ Q v H'
noncomputable def CR (CX : CXT) (outer : List Env) (P : Program) (w : World) (H : Hp) (s : Shared) (Q : VK) (E : XK) (r : Result) (s' : Shared) : Prop :=
  match r with
  | .ok (.ret u) => CE outer P w H s Q u s'
  | .ok _ => False
  | .error e => CX outer H s E e s'
structure FnOk (P : Program) (w : World) (K : PySem.W.Frag) (mg : Str → Option Value) (base : Heap) (CX : CXT) (k : Nat) (f : Addr) (fd : FuncData) (ps : List Str) (sp : Sp) : Prop where
  len : ∀ vs H Q E, sp vs H Q E → vs.length = ps.length
  run : ∀ (A : Around) (outer : List Env) (s : Shared) (H : Hp) (args : Args) (us : List Value) (vs : List V) (Q : VK) (E : XK), Room k A → Env0 P w K mg base A outer s H → BindsTo s fd args (ps.zip us) → Vals vs us → sp vs H Q E →
    codeAny (model P w) A (.call (.ref f) args) (CR CX outer P w H s Q E) s
theorem FnOk.mono {P : Program} {w : World} {K : PySem.W.Frag} {mg : Str → Option Value} {base : Heap} {CX : CXT} {j k : Nat} {f : Addr} {fd : FuncData} {ps : List Str} {sp : Sp} (F : FnOk P w K mg base CX j f fd ps sp) (h : j ≤ k) :
    FnOk P w K mg base CX k f fd ps sp := ⟨F.len, fun A outer s H args us vs Q E hr => F.run A outer s H args us vs Q E (hr.mono h)⟩

theorem Env0.make {P : Program} {w : World} {K : PySem.W.Frag} {mg : Str → Option Value} {base : Heap} {A : Around} {outer : List Env} {s : Shared} {H : Hp} (e : Env0 P w K mg base A outer s H) (C : Addr) (us : List Value) (kw : List (Str × Value)) :
    Env0 P w K mg base (A.under (.builtin "type.__call__" ⟨.ref C :: us, kw⟩)) outer s H := ⟨by first | exact e.frames | (simpa [Around.under, Code.envs, Code.isFrame, pushEnvs] using e.frames), e.mod, e.bs, e.bsz, e.funs, e.frf, e.hok, e.bare⟩

section
variable {X : Cx} {pins : List (Addr × Obj)} {σ : St} {H : Hp} {s s' : Shared}
theorem Inv.env0 (I : Inv X pins σ H s) : Env0 X.prog X.w X.K X.mg X.base X.A X.stack s H :=
  ⟨I.ok.frames, I.ok.mod, I.bs, Nat.le_trans I.ok.bsz I.sz, I.stack, I.stkFree, I.hok, I.bare⟩
theorem Inv.after {Q : VK} {u : Value} (I : Inv X pins σ H s) (h : CE X.stack X.prog X.w H s Q u s') : EP X pins σ Q u s' := by
  obtain ⟨v, H', os, bare, un, hok, r, q⟩ := h
  obtain ⟨hh, g, d, t, os'⟩ := s'
  obtain rfl : os' = s.os := os
  exact ⟨v, H', I.call (h' := hh) (g' := g) (d' := d) (t' := t) (ch := []) un hok bare (fun b z => absurd z (by simp)), r, q⟩
end

noncomputable def tCall (sp : Sp) (dvs : List V) (E : XK) (t : TA) : TE := fun σ H Q => t σ H fun vs H1 => sp (vs ++ dvs) H1 Q E

noncomputable def Binds (K : PySem.W.Frag) (fd : FuncData) (ps : List Str) (ds : List Value) : Prop :=
  ∀ (s : Shared) (us : List Value), K.In s.heap → (us ++ ds).length = ps.length → BindsTo s fd ⟨us, []⟩ (ps.zip (us ++ ds))
theorem Binds.all {K : PySem.W.Frag} {fd : FuncData} {ps : List Str} (h : ∀ us : List Value, us.length = ps.length → bindArgs fd ⟨us, []⟩ = pure (ps.zip us)) : Binds K fd ps [] := fun s us _ hl => by
  rw [List.append_nil] at hl ⊢
  exact .of_eq (h us hl)

noncomputable def Passes (CX : CXT) (X : Cx) (E : XK) : Prop := ∀ (pins : List (Addr × Obj)) (σ : St) (H : Hp) (s : Shared) (e : Value) (s' : Shared), Inv X pins σ H s → CX X.stack H s E e s' → X.xe e s'

section
variable {X : Cx} {CX : CXT} {k : Nat} {f C : Addr} {fd : FuncData} {ps : List Str} {sp : Sp} {dvs : List V} {ds : List Value} {E : XK} {x m : Str} {p pos apos : Pos} {e o : Expr} {es : List Expr} {ta : TE} {t : TA}

theorem run_fn {pins : List (Addr × Obj)} {σ : St} {H : Hp} {s : Shared} {Q : VK} {us : List Value} {vs : List V} (F : FnOk X.prog X.w X.K X.mg X.base CX k f fd ps sp) (hr : Room k X.A) (hb : Binds X.K fd ps ds) (hd : Vals dvs ds) (hx : Passes CX X E)
    (I : Inv X pins σ H s) (r : Vals vs us) (h : sp (vs ++ dvs) H Q E) : wpAny (model X.prog X.w) X.A (call (.ref f) us) (EP X pins σ Q) X.xe s := by
  have r2 : Vals (vs ++ dvs) (us ++ ds) := r.append hd
  have hl : (us ++ ds).length = ps.length := by rw [← r2.length]; exact F.len _ _ _ _ h
  refine wpAny_call (codeAny_mono (F.run X.A X.stack s H ⟨us, []⟩ (us ++ ds) (vs ++ dvs) Q E hr I.env0 (hb s us I.kIn hl) r2 h) fun r s' hq => ?_)
  cases r with
  | error e => exact hx pins σ H s e s' I hq
  | ok fl =>
    cases fl with
    | ret u => exact I.after hq
    | next => exact False.elim hq
    | brk => exact False.elim hq
    | cont => exact False.elim hq

theorem pe_call (F : FnOk X.prog X.w X.K X.mg X.base CX k f fd ps sp) (hr : Room k X.A) (hg : Gl X x) (hm : X.mg x = some (.ref f)) (hk : PySem.W.keepIn X.K (.ref f) = true) (hb : Binds X.K fd ps ds) (hd : Vals dvs ds) (hx : Passes CX X E)
    (ha : PA X (e :: es) t) (hdb : (x == ("__debug__" : Str)) = false := by decide) (he : starEach (e :: es) X.env = (false, eval e X.env) :: starEach es X.env := by rfl) (hpl : (backTo pos (starEach es X.env)).any (·.1) = false := by rfl) :
    PE X (.Call (.Name x p) (e :: es) [] pos) (tCall sp dvs E t) := by
  intro pins s σ H Q I h
  refine wpAny_Call_Name_kw (ld_glob I hg hm ?_ hdb)
  refine PySem.W.callWith_K (h₀ := X.base) I.ok.mod.kin hk (thn (ha pos pins s σ H _ I h) fun us s1 ⟨vs, H1, I1, r, q⟩ => ⟨I1.kIn, ?_⟩) he hpl
  exact run_fn F hr hb hd hx I1 r q



end

section
variable {X : Cx} {CX : CXT} {k : Nat} {f C : Addr} {fd : FuncData} {ps ks : List Str} {sp : Sp} {E : XK} {x m : Str} {p pos apos kpos : Pos} {e o : Expr} {es : List Expr} {kws : List Keyword} {te ta : TE} {t tk : TA} {nm : Option Str}

variable {g : List Value → List Value → List Value} {gV : List V → List V → List V}
end

structure FnScope (N P : List Str) (sc : Scope) : Prop where
  kind : sc.kind = .function
  co : sc.isCoroutine = false
  gen : sc.isGenerator = false
  nd : N.Nodup
  pre : N.take P.length = P
  par : ∀ x ∈ P, sc.names.lookup x = some .local ∨ sc.names.lookup x = some .cell
  nofree : ∀ y ∈ sc.names, y.2 ≠ .free

theorem bindL_out {kindOf : Str → Option NameKind} {x : Str} : ∀ {binds : List (Str × Value)} {m : Str → Option Value}, (∀ v, (x, v) ∉ binds) → bindL kindOf binds m x = m x
  | [], _, _ => rfl
  | (n, v) :: r, m, h => by
    unfold bindL
    rw [bindL_out fun w hw => h w (List.mem_cons_of_mem _ hw)]
    split
    · have : x ≠ n := by rintro rfl; exact h v List.mem_cons_self
      simp [this]
    · rfl
theorem bindC_out {kindOf : Str → Option NameKind} {x : Str} : ∀ {binds : List (Str × Value)} {m : Str → Option Value}, (∀ v, (x, v) ∉ binds) → bindC kindOf binds m x = m x
  | [], _, _ => rfl
  | (n, v) :: r, m, h => by
    unfold bindC
    rw [bindC_out fun w hw => h w (List.mem_cons_of_mem _ hw)]
    split
    · rfl
    · have : x ≠ n := by rintro rfl; exact h v List.mem_cons_self
      simp [this]
theorem bindL_get {kindOf : Str → Option NameKind} {x : Str} {v : Value} : ∀ {P : List Str} {vs : List Value} {i : Nat} {m : Str → Option Value}, P.Nodup → P[i]? = some x → vs[i]? = some v → kindOf x = some .local →
    bindL kindOf (P.zip vs) m x = some v
  | [], _, _, _, _, h, _, _ => by simp at h
  | _ :: _, [], _, _, _, _, h, _ => by simp at h
  | p :: P, w :: vs, 0, m, nd, h1, h2, hk => by
    simp at h1 h2; subst h1; subst h2
    show bindL kindOf ((p, w) :: P.zip vs) m p = _
    unfold bindL
    rw [bindL_out fun v hv => (List.nodup_cons.mp nd).1 (List.of_mem_zip hv).1, if_pos hk]
    simp
  | p :: P, w :: vs, i + 1, m, nd, h1, h2, hk => by
    show bindL kindOf ((p, w) :: P.zip vs) m x = _
    unfold bindL
    exact bindL_get (i := i) (List.nodup_cons.mp nd).2 (by simpa using h1) (by simpa using h2) hk
theorem bindC_get {kindOf : Str → Option NameKind} {x : Str} {v : Value} : ∀ {P : List Str} {vs : List Value} {i : Nat} {m : Str → Option Value}, P.Nodup → P[i]? = some x → vs[i]? = some v → kindOf x ≠ some .local →
    bindC kindOf (P.zip vs) m x = some v
  | [], _, _, _, _, h, _, _ => by simp at h
  | _ :: _, [], _, _, _, _, h, _ => by simp at h
  | p :: P, w :: vs, 0, m, nd, h1, h2, hk => by
    simp at h1 h2; subst h1; subst h2
    show bindC kindOf ((p, w) :: P.zip vs) m p = _
    unfold bindC
    rw [bindC_out fun v hv => (List.nodup_cons.mp nd).1 (List.of_mem_zip hv).1, if_neg hk]
    simp
  | p :: P, w :: vs, i + 1, m, nd, h1, h2, hk => by
    show bindC kindOf ((p, w) :: P.zip vs) m x = _
    unfold bindC
    exact bindC_get (i := i) (List.nodup_cons.mp nd).2 (by simpa using h1) (by simpa using h2) hk

noncomputable def start (N : List Str) (vs : List V) : St := vs.map some ++ List.replicate (N.length - vs.length) none

noncomputable def cxOf (CX : CXT) (P : Program) (w : World) (K : PySem.W.Frag) (mg : Str → Option Value) (base : Heap) (N : List Str) (qual : Str) (scope : Scope) (f : Addr) (cd : Value) (A : Around) (outer : List Env) (s : Shared) (H : Hp) (E : XK) : Cx where
  prog := P
  w := w
  K := K
  mg := mg
  base := base
  A := A.deeper (envOfC qual scope s.heap.objs.size f cd)
  N := N
  s₀ := s
  H₀ := H
  env := envOfC qual scope s.heap.objs.size f cd
  outer := outer
  stack := envOfC qual scope s.heap.objs.size f cd :: outer
  ex := []
  calm := true
  fn := fun _ => true
  pn := []
  xe := fun e s' => wpAny (model P w) (A.deeper (envOfC qual scope s.heap.objs.size f cd)) (leaving (envOfC qual scope s.heap.objs.size f cd) e) (fun _ s'' => CX outer H s E e s'') (fun e' s'' => CX outer H s E e' s'') s'

theorem cell_has {sc : Scope} {n : Nat} {x : Str} (h : sc.names.lookup x = some .cell) : ∃ c, (cellsFrom n sc.names []).lookup x = some c := by
  have q := PySem.W.cellsFrom_some sc.names n [] (.inl h)
  exact Option.isSome_iff_exists.mp q

theorem inv_start {CX : CXT} {P : Program} {w : World} {K : PySem.W.Frag} {mg : Str → Option Value} {base : Heap} {N ps : List Str} {qual : Str} {scope : Scope} {f : Addr} {cd : Value} {A : Around} {outer : List Env} {s s1 : Shared} {H : Hp} {E : XK} {us : List Value} {vs : List V}
    (S : FnScope N ps scope) (hd : A.handled = none) (e0 : Env0 P w K mg base A outer s H) (hl : vs.length = ps.length) (r : Vals vs us)
    (x : InCallC s s.heap.objs.size (bindL (envOfC qual scope s.heap.objs.size f cd).kindOf (ps.zip us) fun _ => none) (cellsFrom (s.heap.objs.size + 1) scope.names []) (bindC (envOfC qual scope s.heap.objs.size f cd).kindOf (ps.zip us) fun _ => none) s1) :
    Inv (cxOf CX P w K mg base N qual scope f cd A outer s H E) [] (start N vs) H s1 := by
  have hpl : ps.length ≤ N.length := by have := congrArg List.length S.pre; rw [List.length_take] at this; omega
  obtain ⟨h1, tk, rfl, hk⟩ := x.done
  have noA : ∀ b : Addr, b ∉ (cxOf CX P w K mg base N qual scope f cd A outer s H E).ex := fun b z => absurd (show b ∈ ([] : List Addr) from z) (by simp)
  refine ⟨⟨e0.mod, S.kind, rfl, rfl, Nat.le_refl _, fun y z c h1 h2 => ?_, fun y hy => ?_, fun y c _ h => ?_, fun _ => hd, Around.frames_deeper e0.frames, .inr ⟨rfl, rfl⟩, fun b z => absurd z (noA b), e0.bs, e0.bsz, fun b _ _ => noA b, fun b z => absurd z (noA b), e0.funs, e0.frf⟩,
    rfl, e0.bare, Un.kept hk, ⟨_, x.toInCall.ns, fun i y v h1 h2 h3 => ?_⟩, fun y c h => ⟨_, x.cell y c h⟩, e0.hok.fresh (Nat.le_refl _), fun y c h => ?_, fun p hp => absurd (show p ∈ ([] : List (Addr × Obj)) from hp) (by simp), e0.hok.kept hk, ?_⟩
  · exact name_of_addr x.apart (PySem.mem_of_lookup h1) (PySem.mem_of_lookup h2)
  · have hy : scope.names.lookup y = some .cell ∨ scope.names.lookup y = some .free := hy
    rcases hy with hy | hy
    · exact cell_has hy
    · exact absurd rfl (S.nofree _ (PySem.mem_of_lookup hy))
  · exact Nat.le_of_lt (x.above y c (PySem.mem_of_lookup h))
  · have hi : i < vs.length := by
      unfold start at h2
      by_cases hi : i < vs.length
      · exact hi
      · rw [List.getElem?_append_right (by simpa using hi)] at h2
        rw [List.getElem?_replicate] at h2
        split at h2 <;> cases h2
    have ha : vs[i]? = some v := by
      unfold start at h2
      rw [List.getElem?_append_left (by simpa using hi), List.getElem?_map] at h2
      cases e : vs[i]? with
      | none => rw [e] at h2; cases h2
      | some a => rw [e] at h2; cases h2; rfl
    obtain ⟨u, hu, rv⟩ := r.get ha
    have hp : ps[i]? = some y := by
      rw [← S.pre, List.getElem?_take_of_lt (by omega)]; exact h1
    have ndP : ps.Nodup := by rw [← S.pre]; exact S.nd.sublist (List.take_sublist _ _)
    refine ⟨u, rv, ?_⟩
    rcases S.par y (List.mem_of_getElem? hp) with k | k
    · exact .inl ⟨k, bindL_get ndP hp hu k⟩
    · obtain ⟨c, e⟩ := cell_has (n := s.heap.objs.size + 1) k
      refine .inr ⟨.inl k, c, e, ?_⟩
      have q := x.cell y c e
      rw [bindC_get ndP hp hu (by show scope.names.lookup y ≠ _; rw [k]; decide)] at q
      exact q
  · exact e0.hok.fresh (Nat.le_of_lt (x.above y c (PySem.mem_of_lookup h)))
  · unfold start
    show _ = N.length
    rw [List.length_append, List.length_map, List.length_replicate]
    omega

theorem fn_of {CX : CXT} {P : Program} {w : World} {K : PySem.W.Frag} {mg : Str → Option Value} {base : Heap} {k : Nat} {f : Addr} {name qual : Str} {params : Arguments} {body : List Stmt} {scope : Scope} {dV kV doc pm cdv ct oc : Value} {an od : Option Addr}
    {osl : Array (Option Value)} {N ps : List Str} {sp : Sp} (lk : K.lookup f = some ⟨oc, od, .func (PySem.W.fnOf name qual params body scope dV kV doc pm an cdv ct), osl⟩) (hcd : PySem.W.codeIn K cdv qual = true) (S : FnScope N ps scope)
    (len : ∀ vs H Q E, sp vs H Q E → vs.length = ps.length)
    (hbody : ∀ (A : Around) (outer : List Env) (s : Shared) (H : Hp) (vs : List V) (Q : VK) (E : XK), Room k (A.deeper (envOfC qual scope s.heap.objs.size f cdv)) → sp vs H Q E →
      ∃ t, PSs (cxOf CX P w K mg base N qual scope f cdv A outer s H E) body t ∧ t { nx := fun _ H' => Q .non H', rt := Q } (start N vs) H) :
    FnOk P w K mg base CX (k + 1) f (PySem.W.fnOf name qual params body scope dV kV doc pm an cdv ct) ps sp := by
  refine ⟨len, fun A outer s H args us vs Q E hr e0 hb r hsp => ?_⟩
  have hl := len _ _ _ _ hsp
  have KX : K.In s.heap := e0.mod.kin.keeps fun b o e => (e0.bs b o e).1
  have lim : s.heap.NoLimit := e0.mod.nolimit.keeps fun b o e => (e0.bs b o e).1
  have hkind : ∀ y ∈ ps.zip us, scope.names.lookup y.1 = some .local ∨ (scope.names.lookup y.1 = some .cell ∧ ((cellsFrom (s.heap.objs.size + 1) scope.names []).lookup y.1).isSome = true) := fun ⟨n, v⟩ hy => by
    rcases S.par n (List.of_mem_zip hy).1 with q | q
    · exact .inl q
    · exact .inr ⟨q, PySem.W.cellsFrom_some _ _ _ (.inl q)⟩
  refine codeAny_call_function hr.depth (KX _ _ lk) rfl S.co S.gen rfl (PySem.W.codeRec_of KX hcd) (hb _ _ _ _ ?_)
  refine wpAny_newFunctionEnv_cells S.kind hkind fun env he s1 x => ?_
  subst he
  refine ⟨lim.keeps x.toInCall.keep, codeAny_func ?_⟩
  obtain ⟨t, ht, hq⟩ := hbody A outer s H vs Q E (hr.deeper _) hsp
  have I : Inv (cxOf CX P w K mg base N qual scope f cdv A outer s H E) [] (start N vs) H s1 := inv_start S hr.hd e0 hl r x
  refine wpAny_mono (ht [] s1 (start N vs) H _ I hq) (fun fl s' hs => ?_) fun e s' hs => hs
  have fin : ∀ {σ' : St} {H' : Hp} {v : V} {u : Value}, Inv (cxOf CX P w K mg base N qual scope f cdv A outer s H E) [] σ' H' s' → RelV v u → Q v H' → CE outer P w H s Q u s' :=
    fun {σ' H' v u} J rv q => ⟨v, H', J.os, J.bare, J.base, J.hok, rv, q⟩
  cases fl with
  | ret u =>
    obtain ⟨v, σ', H', J, rv, q⟩ := hs
    exact fin J rv q
  | next =>
    obtain ⟨σ', H', J, q⟩ := hs
    exact fin (v := V.non) (u := Value.none) J rfl q
  | brk =>
    obtain ⟨_, _, _, q⟩ := hs
    exact False.elim q
  | cont =>
    obtain ⟨_, _, _, q⟩ := hs
    exact False.elim q
end L2

namespace L2
open PySem PySem.Spec PyProof.Rows
section
variable {X : Cx} {x : Str} {p pos : Pos} {e : Expr} {es : List Expr} {t : TA} {id T : String} {r : List V → Hp → VK → Prop}

noncomputable def tCB (r : List V → Hp → VK → Prop) (t : TA) : TE := fun σ H Q => t σ H fun vs H1 => r vs H1 Q
theorem pe_callB (hc : CallR X (.builtin id) r) (hg : Gl X x) (hm : X.mg x = none) (hv : bootBuiltins x = some (.builtin id)) (ha : PA X (e :: es) t) (hn : x ≠ "__name__" := by decide) (hdb : (x == ("__debug__" : Str)) = false := by decide)
    (he : starEach (e :: es) X.env = (false, eval e X.env) :: starEach es X.env := by rfl) (hpl : (backTo pos (starEach es X.env)).any (·.1) = false := by rfl) : PE X (.Call (.Name x p) (e :: es) [] pos) (tCB r t) := by
  intro pins s σ H Q I h
  refine wpAny_Call_Name_kw (ld_blt I hg hm hv ?_ hn hdb)
  exact PyProof.Rows.callWith_builtin1 (thn (ha pos pins s σ H _ I h) fun us s1 zq60 => (by obtain ⟨vs, H1, I1, r1, q1⟩ := zq60; exact hc pins s1 σ H1 vs us Q I1 r1 q1)) he hpl
theorem pe_callTy (hc : CallR X (.type T) r) (hg : Gl X x) (hm : X.mg x = none) (hv : bootBuiltins x = some (.type T)) (ha : PA X (e :: es) t) (hn : x ≠ "__name__" := by decide) (hdb : (x == ("__debug__" : Str)) = false := by decide)
    (he : starEach (e :: es) X.env = (false, eval e X.env) :: starEach es X.env := by rfl) (hpl : (backTo pos (starEach es X.env)).any (·.1) = false := by rfl) : PE X (.Call (.Name x p) (e :: es) [] pos) (tCB r t) := by
  intro pins s σ H Q I h
  refine wpAny_Call_Name_kw (ld_blt I hg hm hv ?_ hn hdb)
  exact PyProof.Rows.callWith_type1 (thn (ha pos pins s σ H _ I h) fun us s1 zq61 => (by obtain ⟨vs, H1, I1, r1, q1⟩ := zq61; exact hc pins s1 σ H1 vs us Q I1 r1 q1)) he hpl
end
end L2

namespace HT
open PySem PyProof.Rows



section
open PySem.SeqAt
open PySem.AutoSeq1 (wpAny_loadPart')
open PySem.MeetsSeq PySem.MeetsSeq2 PySem.MeetsSeq3

end

section
variable {prog : Program} {w : World} {A : Around} {E : Value → Shared → Prop} {s : Shared}



noncomputable def sIx (n d : Nat) : Option Int → Nat
  | none => d
  | some v => if v < 0 then (v + (n : Int)).toNat else min v.toNat n
theorem sIx_none (n d : Nat) : sIx n d none = d := rfl
theorem sIx_nat (n d k : Nat) : sIx n d (some (k : Int)) = min k n := by
  show (if (k : Int) < 0 then ((k : Int) + (n : Int)).toNat else min (k : Int).toNat n) = min k n
  rw [if_neg (by omega), Int.toNat_natCast]

end
end HT

namespace L2
open PySem PySem.Spec PyProof.Rows

noncomputable abbrev TO := St → Hp → (Option Int → Hp → Prop) → Prop
noncomputable def PO (X : Cx) (e : Option Expr) (t : TO) : Prop :=
  ∀ (pins : List (Addr × Obj)) (s : Shared) (σ : St) (H : Hp) (Q : Option Int → Hp → Prop), Inv X pins σ H s → t σ H Q →
    wpAny (model X.prog X.w) X.A (evalPart e X.env) (fun u s' => ∃ o H', Inv X pins σ H' s' ∧ IsPart u o ∧ Q o H') X.xe s
noncomputable def tNoPart : TO := fun _ H Q => Q none H
noncomputable def tPart (t : TE) : TO := fun σ H Q => t σ H fun x H1 => ∃ i, x = .int i ∧ Q (some i) H1


section
variable {X : Cx} {e : Expr} {te : TE} {lo hi : Option Expr} {tl th : TO} {pos p2 : Pos}

theorem po_none : PO X none tNoPart := by
  intro pins s σ H Q I h
  rw [evalPart_none]
  exact wpAny_pure ⟨none, H, I, .none, h⟩
theorem po_some (h : PE X e te) : PO X (some e) (tPart te) := by
  intro pins s σ H Q I hw
  rw [evalPart_some]
  refine thn (h pins s σ H _ I hw) fun u s1 zq62 => ?_
  obtain ⟨x, H1, I1, r1, q1⟩ := zq62
  obtain ⟨i, rfl, q⟩ := q1
  obtain ⟨t, rfl⟩ := r1
  exact ⟨some i, H1, I1, .int i t, q⟩

noncomputable def SlR (X : Cx) (r : V → Option Int → Option Int → Hp → VK → Prop) : Prop :=
  ∀ (pins : List (Addr × Obj)) (s : Shared) (σ : St) (H : Hp) (x : V) (v vl vu : Value) (lo hi : Option Int) (sl : Addr) (Q : VK), Inv X pins σ H s → RelV x v → s.heap.IsSliceOf sl vl vu .none → IsPart vl lo → IsPart vu hi → r x lo hi H Q →
    ∃ T id, typeLookup (.type T) "__getitem__" = pure (some (.builtin id)) ∧ s.TypeIs v T ∧ wpAny (model X.prog X.w) X.A (getItem v (.ref sl)) (EP X pins σ Q) X.xe s
noncomputable def tSl (r : V → Option Int → Option Int → Hp → VK → Prop) (te : TE) (tl th : TO) : TE := fun σ H Q => te σ H fun x H1 => tl σ H1 fun l H2 => th σ H2 fun u H3 => r x l u H3 Q
theorem pe_slice {r : V → Option Int → Option Int → Hp → VK → Prop} (hr : SlR X r) (he : PE X e te) (hl : PO X lo tl) (hu : PO X hi th) : PE X (.Subscript e (.Slice lo hi none p2) pos) (tSl r te tl th) := by
  intro pins s σ H Q I h
  refine Subscript_ (thn (he pins s σ H _ I h) fun v s1 zq63 => ?_)
  obtain ⟨x, H1, I1, r1, q1⟩ := zq63
  refine wpAny_Slice (thn (hl pins s1 σ H1 _ I1 q1) fun vl s2 ⟨l, H2, I2, pl, q2⟩ => thn (hu pins s2 σ H2 _ I2 q2) fun vu s3 zq64 => ?_)
  obtain ⟨u, H3, I3, pu, q3⟩ := zq64
  rw [evalPart_none]
  refine wpAny_pure ?_
  have I4 : Inv X pins σ H3 { s3 with heap := s3.heap.push { cls := .type "slice", data := .fields #[vl, vu, .none] } } := I3.kept (t' := s3.toks) fun b ob q => Heap.get?_push_of_some _ q
  obtain ⟨T, id, hT, ht, hg⟩ := hr pins { s3 with heap := s3.heap.push { cls := .type "slice", data := .fields #[vl, vu, .none] } } σ H3 x v vl vu l u s3.heap.objs.size Q I4 r1 (Heap.IsSliceOf.new ..) pl pu q3
  show wpAny (model X.prog X.w) X.A (subscriptTail e (.Slice lo hi none p2) v (.ref s3.heap.objs.size)) (EP X pins σ Q) X.xe { s3 with heap := s3.heap.push { cls := .type "slice", data := .fields #[vl, vu, .none] } }
  exact tail_any (ops := [.ref s3.heap.objs.size, v]) ht hT hg (by with_unfolding_all rfl)

noncomputable def cutV (xs : List V) (lo hi : Option Int) : List V := (xs.drop (HT.sIx xs.length 0 lo)).take (HT.sIx xs.length xs.length hi - HT.sIx xs.length 0 lo)
theorem cutV_length (xs : List V) (lo hi : Option Int) : (cutV xs lo hi).length ≤ xs.length := by
  unfold cutV
  rw [List.length_take, List.length_drop]
  omega

end
end L2

namespace L2
open PySem PySem.Spec PyProof.Rows

noncomputable def ixN (n : Nat) (i : Int) : Option Nat := if 0 ≤ i then (if i < n then some i.toNat else none) else if -(n : Int) ≤ i then some (i + n).toNat else none
noncomputable def atI {α : Type} (xs : List α) (i : Int) : Option α := (ixN xs.length i).bind fun j => xs[j]?
theorem ixN_seq {n : Nat} {i : Int} {j : Nat} (h : ixN n i = some j) : seqIndex? i n = some j ∧ j < n ∧ -(n : Int) ≤ i ∧ i < n := by
  unfold ixN at h
  by_cases h0 : 0 ≤ i
  · rw [if_pos h0] at h
    by_cases h1 : i < n
    · rw [if_pos h1] at h
      have e : i.toNat = j := Option.some.inj h
      exact ⟨by rw [seqIndex_of h0 h1, e], by omega, by omega, h1⟩
    · rw [if_neg h1] at h; cases h
  · rw [if_neg h0] at h
    by_cases h1 : -(n : Int) ≤ i
    · rw [if_pos h1] at h
      have e : (i + n).toNat = j := Option.some.inj h
      exact ⟨by rw [seqIndex_neg (by omega) h1, e], by omega, h1, by omega⟩
    · rw [if_neg h1] at h; cases h
theorem atI_get {α : Type} {xs : List α} {i : Int} {v : α} (h : atI xs i = some v) : ∃ j, seqIndex? i xs.length = some j ∧ xs[j]? = some v ∧ j < xs.length ∧ -(xs.length : Int) ≤ i ∧ i < xs.length := by
  unfold atI at h
  cases e : ixN xs.length i with
  | none => rw [e] at h; cases h
  | some j =>
    rw [e] at h
    obtain ⟨h1, h2, h3, h4⟩ := ixN_seq e
    exact ⟨j, h1, h, h2, h3, h4⟩

noncomputable def PlainIx (b : Expr) : Prop := ∀ o i, subscripted b false o i = operate [o, i] (getItem o i)
noncomputable def IxR (X : Cx) (r : R2) : Prop :=
  ∀ (value slice : Expr) (pins : List (Addr × Obj)) (s : Shared) (σ : St) (H : Hp) (x y : V) (v u : Value) (Q : VK), Inv X pins σ H s → RelV x v → RelV y u → r x y H Q →
    subscripted slice false v u = operate [v, u] (getItem v u) → wpAny (model X.prog X.w) X.A (subscriptTail value slice v u) (EP X pins σ Q) X.xe s
noncomputable def MtR (X : Cx) (id : String) (r : V → List V → Hp → VK → Prop) : Prop :=
  ∀ (pins : List (Addr × Obj)) (s : Shared) (σ : St) (H : Hp) (x : V) (xs : List V) (v : Value) (us : List Value) (Q : VK), Inv X pins σ H s → RelV x v → Vals xs us → r x xs H Q →
    wpAny (model X.prog X.w) X.A (call (.builtin id) (v :: us)) (EP X pins σ Q) X.xe s
section
variable {X : Cx} {a b : Expr} {ta tb : TE} {pos : Pos}
theorem pe_ix {r : R2} (hr : IxR X r) (ha : PE X a ta) (hb : PE X b tb) (hs : PlainIx b) : PE X (.Subscript a b pos) (tOp r ta tb) := by
  intro pins s σ H Q I h
  exact Subscript_ (binT ha hb I h fun v u s2 x y H2 I2 rx ry q => hr a b pins s2 σ H2 x y v u Q I2 rx ry q (hs _ _))

noncomputable def rIxL (K : PySem.W.Frag) : R2 := fun x y H Q => ∃ p xs i v, x = .ref p ∧ y = .int i ∧ SqL K H p xs ∧ atI xs i = some v ∧ Q v H
noncomputable def rIxT (K : PySem.W.Frag) : R2 := fun x y H Q => ∃ p xs i v, x = .ref p ∧ y = .int i ∧ SqT K H p xs ∧ atI xs i = some v ∧ Q v H
noncomputable def rIxS : R2 := fun x y H Q => ∃ z i c, x = .str z ∧ y = .int i ∧ z.length ≤ sizeLine ∧ atI z.cps.toList i = some c ∧ Q (.str ⟨#[c]⟩) H
theorem ix_list : IxR X (rIxL X.K) := by
  intro value slice pins s σ H x y v u Q I rx ry h hs
  obtain ⟨p, xs, i, z, rfl, rfl, hq, he, q⟩ := h
  cases rx
  obtain ⟨t, rfl⟩ := ry
  obtain ⟨its, r, pl, hz⟩ := I.list hq
  obtain ⟨j, h1, h2, h3, h4, h5⟩ := atI_get he
  obtain ⟨w, ew, rw'⟩ := r.get h2
  have hl := r.length
  have hn := line63
  have fin : EP X pins σ Q w s := ⟨z, H, I, rw', q⟩
  by_cases h0 : 0 ≤ i
  · have hj : i.toNat = j := by
      rw [seqIndex_of h0 h5] at h1
      exact Option.some.inj h1
    exact item_listR pl.isList h0 (by omega) (by rw [hj]; simpa using ew) fin hs
  · have hj : (i + (its.toArray.size : Int)).toNat = j := by
      rw [seqIndex_neg (by omega) h4] at h1
      rw [List.size_toArray, ← hl]
      exact Option.some.inj h1
    exact subscriptTail_builtinR (x := w) pl.isList.typeIs slot_list_getitem.lookup
      (wpAny_getItem_list_neg (Q := fun r s' => r = w ∧ EP X pins σ Q r s') pl.isList (by omega) (by rw [List.size_toArray] <;> omega) (by omega) (by rw [hj]; simpa using ew) ⟨rfl, fin⟩) hs
theorem ix_tup : IxR X (rIxT X.K) := by
  intro value slice pins s σ H x y v u Q I rx ry h hs
  obtain ⟨p, xs, i, z, rfl, rfl, hq, he, q⟩ := h
  cases rx
  obtain ⟨t, rfl⟩ := ry
  obtain ⟨its, r, pl, hz⟩ := I.tuple hq
  obtain ⟨j, h1, h2, h3, h4, h5⟩ := atI_get he
  obtain ⟨w, ew, rw'⟩ := r.get h2
  have hl := r.length
  have hn := line63
  have fin : EP X pins σ Q w s := ⟨z, H, I, rw', q⟩
  exact subscriptTail_builtinR (x := w) pl.typeIs slot_tuple_getitem.lookup
    (getItem_tuple (j := j) (Q := fun r s' => r = w ∧ EP X pins σ Q r s') pl (by omega) (by omega) (by rw [List.size_toArray, ← hl]; exact h1) (by simpa using ew) ⟨rfl, fin⟩) hs
theorem ix_str : IxR X rIxS := by
  intro value slice pins s σ H x y v u Q I rx ry h hs
  obtain ⟨z, i, c, rfl, rfl, hz, he, q⟩ := h
  obtain ⟨t, rfl⟩ := rx
  obtain ⟨t', rfl⟩ := ry
  obtain ⟨j, h1, h2, h3, h4, h5⟩ := atI_get he
  have hl : z.cps.toList.length = z.length := by simp [Str.length]
  rw [hl] at h1 h4 h5
  have hn := line63
  exact tail_any (typeIs_str s z t) slot_str_getitem.lookup (getItem_str (c := c) (by
    have e1 : decide (i < -(2 ^ 63 : Int)) = false := decide_eq_false (by omega)
    have e2 : decide (i ≥ 2 ^ 63) = false := decide_eq_false (by omega)
    rw [e1, e2, Bool.or_false]) (by rw [h1]; simpa using h2) ⟨.str ⟨#[c]⟩, H, I.tok _, ⟨_, rfl⟩, q⟩) hs

theorem Inv.lst {pins : List (Addr × Obj)} {σ : St} {H : Hp} {s : Shared} {p : Addr} {xs : List V} (I : Inv X pins σ H s) (h : H p = some (.lst xs)) :
    ∃ (its : List Value) (n : Nat), Vals xs its ∧ s.heap.get? p = some { cls := .type "list", data := .seq its.toArray n } ∧ xs.length ≤ sizeLine := by
  obtain ⟨z, its, n, r, e⟩ := I.hok p _ h
  exact ⟨its, n, r, e, z⟩

theorem slice_bounds (lo hi : Option Int) (n : Nat) : (sliceBounds lo hi none n).1 = ((HT.sIx n 0 lo : Nat) : Int) ∧ (sliceBounds lo hi none n).2.1 = ((HT.sIx n n hi : Nat) : Int) ∧ (sliceBounds lo hi none n).2.2 = 1 := by
  refine ⟨?_, ?_, rfl⟩
  · cases lo with
    | none => simp [sliceBounds, HT.sIx]
    | some i =>
      simp only [sliceBounds, HT.sIx, Option.getD_none, show (1 : Int) > 0 by decide, if_true]
      by_cases h : i < 0
      · simp only [h, if_true] <;> omega
      · simp only [h, if_false] <;> omega
  · cases hi with
    | none => simp [sliceBounds, HT.sIx]
    | some i =>
      simp only [sliceBounds, HT.sIx, Option.getD_none, show (1 : Int) > 0 by decide, if_true]
      by_cases h : i < 0
      · simp only [h, if_true] <;> omega
      · simp only [h, if_false] <;> omega
theorem slicePick_cut (its : List Value) (lo hi : Option Int) : slicePick its.toArray lo hi none = ((its.drop (HT.sIx its.length 0 lo)).take (HT.sIx its.length its.length hi - HT.sIx its.length 0 lo)).toArray := by
  obtain ⟨h1, h2, h3⟩ := slice_bounds lo hi its.toArray.size
  unfold slicePick
  rw [h1, h2, h3]
  simp only [sliceRange_one, pick_run, List.size_toArray] <;> rfl
noncomputable def rSlL (K : PySem.W.Frag) : V → Option Int → Option Int → Hp → VK → Prop := fun x lo hi H Q => ∃ a xs, x = .ref a ∧ SqL K H a xs ∧ ∀ p, H p = none → Q (.ref p) (upd H p (.lst (cutV xs lo hi)))
theorem sl_list : SlR X (rSlL X.K) := by
  intro pins s σ H x v vl vu lo hi sl Q I rx hs pl pu h
  obtain ⟨a, xs, rfl, hx, q⟩ := h
  cases rx
  obtain ⟨its, r, ht, hz⟩ := I.list hx
  have hlen := r.length
  refine ⟨"list", _, slot_list_getitem.lookup, ht.isList.typeIs, ?_⟩
  refine wpAny_getItem_list_slice ht.isList hs pl pu .none (by simp) ?_ (by rw [List.size_toArray] <;> omega)
  rw [slicePick_cut, ← hlen]
  refine ⟨.ref s.heap.objs.size, _, I.laid (t' := s.toks) (o := .lst (cutV xs lo hi)) (fun b ob q => Heap.get?_push_of_some _ q) (Nat.le_refl _) ?_, rfl, q _ (I.hok.fresh (Nat.le_refl _))⟩
  exact ⟨Nat.le_trans (cutV_length xs lo hi) hz, _, 0, (r.drop (HT.sIx xs.length 0 lo)).take (HT.sIx xs.length xs.length hi - HT.sIx xs.length 0 lo), Heap.get?_push_size _ rfl⟩

noncomputable def flatV : V → Bool
  | .non => true
  | .bl _ => true
  | .int _ => true
  | .str _ => true
  | _ => false
noncomputable def eqV : V → V → Bool
  | .non, .non => true
  | .bl a, .bl b => a == b
  | .bl a, .int b => (if a then 1 else 0) == b
  | .int a, .bl b => a == (if b then 1 else 0)
  | .int a, .int b => a == b
  | .str a, .str b => a == b
  | _, _ => false
theorem eqAt_V {A : Around} {s : Shared} {y x : V} {u v : Value} (ry : RelV y u) (rx : RelV x v) (fy : flatV y = true) (fx : flatV x = true) : SeqAt.EqAt A s u v (eqV y x) := by
  cases y with
  | non =>
    cases ry
    cases x with
    | non => cases rx; exact SeqAt.EqAt.same _
    | bl b => cases rx; exact SeqAt.EqAt.none_bool b
    | int b => obtain ⟨t, rfl⟩ := rx; exact SeqAt.EqAt.none_int b t
    | str b => obtain ⟨t, rfl⟩ := rx; exact SeqAt.EqAt.none_str b t
    | _ => exact absurd (show false = true from fx) Bool.false_ne_true
  | bl a =>
    cases ry
    cases x with
    | non => cases rx; exact SeqAt.EqAt.bool_none a
    | bl b => cases rx; exact SeqAt.EqAt.bool_bool a b
    | int b => obtain ⟨t, rfl⟩ := rx; exact SeqAt.EqAt.bool_int a b t
    | str b => obtain ⟨t, rfl⟩ := rx; exact SeqAt.EqAt.bool_str a b t
    | _ => exact absurd (show false = true from fx) Bool.false_ne_true
  | int a =>
    obtain ⟨t', rfl⟩ := ry
    cases x with
    | non => cases rx; exact SeqAt.EqAt.int_none a t'
    | bl b => cases rx; exact SeqAt.EqAt.int_bool a t' b
    | int b => obtain ⟨t, rfl⟩ := rx; exact SeqAt.EqAt.int_int a t' b t
    | str b => obtain ⟨t, rfl⟩ := rx; exact SeqAt.EqAt.int_str a t' b t
    | _ => exact absurd (show false = true from fx) Bool.false_ne_true
  | str a =>
    obtain ⟨t', rfl⟩ := ry
    cases x with
    | non => cases rx; exact SeqAt.EqAt.str_none a t'
    | bl b => cases rx; exact SeqAt.EqAt.str_bool a t' b
    | int b => obtain ⟨t, rfl⟩ := rx; exact SeqAt.EqAt.str_int a t' b t
    | str b => obtain ⟨t, rfl⟩ := rx; exact SeqAt.EqAt.str_str a t' b t
    | _ => exact absurd (show false = true from fx) Bool.false_ne_true
  | _ => exact absurd (show false = true from fy) Bool.false_ne_true
noncomputable def eqU (x : V) (u : Value) : Bool := match u with
  | .none => eqV .non x
  | .bool b => eqV (.bl b) x
  | .int i _ => eqV (.int i) x
  | .str z _ => eqV (.str z) x
  | _ => false
theorem eqU_of {x y : V} {u : Value} (r : RelV y u) (f : flatV y = true) : eqU x u = eqV y x := by
  cases y with
  | non => cases r; rfl
  | bl b => cases r; rfl
  | int i => obtain ⟨t, rfl⟩ := r; rfl
  | str z => obtain ⟨t, rfl⟩ := r; rfl
  | _ => exact absurd (show false = true from f) Bool.false_ne_true
theorem any_eqU {x : V} : ∀ {xs : List V} {us : List Value}, Vals xs us → xs.all flatV = true → us.any (eqU x) = xs.any fun y => eqV y x
  | _, _, .nil, _ => rfl
  | y :: xs, u :: us, .cons r t, f => by
    rw [List.all_cons, Bool.and_eq_true] at f
    rw [List.any_cons, List.any_cons, eqU_of r f.1, any_eqU t f.2]
theorem mem_eqAt {A : Around} {s : Shared} {x : V} {v : Value} (rx : RelV x v) (fx : flatV x = true) : ∀ {xs : List V} {us : List Value}, Vals xs us → xs.all flatV = true → ∀ u ∈ us, SeqAt.EqAt A s u v (eqU x u)
  | _, _, .nil, _ => fun u hu => by cases hu
  | y :: xs, u :: us, .cons r t, f => fun u' hu => by
    rw [List.all_cons, Bool.and_eq_true] at f
    rcases List.mem_cons.mp hu with rfl | hu
    · rw [eqU_of r f.1]; exact eqAt_V r rx f.1 fx
    · exact mem_eqAt rx fx t f.2 u' hu
noncomputable def inV (x : V) (xs : List V) : Bool := xs.any fun y => eqV y x
noncomputable def rIn (K : PySem.W.Frag) (neg : Bool) : R2 := fun x y H Q => ∃ p xs, y = .ref p ∧ (SqL K H p xs ∨ SqT K H p xs) ∧ flatV x = true ∧ xs.all flatV = true ∧ Q (.bl (if neg then !inV x xs else inV x xs)) H
theorem op_in_seq : OpR X (compareOp .In) (rIn X.K false) := by
  intro pins s σ H x y v u Q I rx ry h
  obtain ⟨p, xs, rfl, hq, fx, fs, q⟩ := h
  cases ry
  rcases hq with hq | hq
  · obtain ⟨its, r, pl, hz⟩ := I.list hq
    refine SeqAt.in_listAt (eqU x) pl.isList (fun w hw => mem_eqAt rx fx r fs w (by simpa using hw)) ⟨.bl _, H, I, rfl, ?_⟩
    rw [show its.toArray.any (eqU x) = its.any (eqU x) by simp, any_eqU r fs]
    exact q
  · obtain ⟨its, r, pl, hz⟩ := I.tuple hq
    refine SeqAt.in_tupleAt (eqU x) pl (fun w hw => mem_eqAt rx fx r fs w (by simpa using hw)) ⟨.bl _, H, I, rfl, ?_⟩
    rw [show its.toArray.any (eqU x) = its.any (eqU x) by simp, any_eqU r fs]
    exact q
theorem op_notIn_seq : OpR X (compareOp .NotIn) (rIn X.K true) := by
  intro pins s σ H x y v u Q I rx ry h
  obtain ⟨p, xs, rfl, hq, fx, fs, q⟩ := h
  cases ry
  rcases hq with hq | hq
  · obtain ⟨its, r, pl, hz⟩ := I.list hq
    refine SeqAt.notIn_listAt (eqU x) pl.isList (fun w hw => mem_eqAt rx fx r fs w (by simpa using hw)) ⟨.bl _, H, I, rfl, ?_⟩
    rw [show its.toArray.any (eqU x) = its.any (eqU x) by simp, any_eqU r fs]
    exact q
  · obtain ⟨its, r, pl, hz⟩ := I.tuple hq
    refine SeqAt.notIn_tupleAt (eqU x) pl (fun w hw => mem_eqAt rx fx r fs w (by simpa using hw)) ⟨.bl _, H, I, rfl, ?_⟩
    rw [show its.toArray.any (eqU x) = its.any (eqU x) by simp, any_eqU r fs]
    exact q

theorem call_len_seq : CallR X (.builtin "len") (fun xs H Q => ∃ p ys, xs = [.ref p] ∧ (SqL X.K H p ys ∨ SqT X.K H p ys) ∧ Q (.int ys.length) H) := by
  intro pins s σ H xs us Q I r h
  obtain ⟨p, ys, rfl, hq, q⟩ := h
  obtain ⟨u, rfl, rx⟩ := vals1 r
  cases rx
  have hn := line63
  rcases hq with hq | hq
  · obtain ⟨its, r', pl, hz⟩ := I.list hq
    have hlen := r'.length
    exact Calls.call_len_list pl.isList (by simp only [List.size_toArray] <;> omega) ⟨.int ys.length, H, I.tok _, ⟨s.toks + 1, by rw [List.size_toArray, hlen]⟩, q⟩
  · obtain ⟨its, r', pl, hz⟩ := I.tuple hq
    have hlen := r'.length
    exact len_tuple pl (by simp only [List.size_toArray] <;> omega) ⟨.int ys.length, H, I.tok _, ⟨s.toks + 1, by rw [List.size_toArray, hlen]⟩, q⟩
theorem call_len_str : CallR X (.builtin "len") (fun xs H Q => ∃ z, xs = [.str z] ∧ z.length ≤ sizeLine ∧ Q (.int z.length) H) := by
  intro pins s σ H xs us Q I r h
  obtain ⟨z, rfl, hz, q⟩ := h
  obtain ⟨u, rfl, t, rfl⟩ := vals1 r
  have hn := line63
  exact len_str (by omega) ⟨.int z.length, H, I.tok _, ⟨_, rfl⟩, q⟩
theorem call_list_of : CallR X (.type "list") (fun xs H Q => ∃ p ys, xs = [.ref p] ∧ (SqL X.K H p ys ∨ SqT X.K H p ys) ∧ ∀ l, H l = none → Q (.ref l) (upd H l (.lst ys))) := by
  intro pins s σ H xs us Q I r h
  obtain ⟨p, ys, rfl, hq, q⟩ := h
  obtain ⟨u, rfl, rx⟩ := vals1 r
  cases rx
  have fin : ∀ (its : List Value), Vals ys its → ys.length ≤ sizeLine → ∀ (h' : Heap) (c' : Nat), (∀ b o', s.heap.get? b = some o' → h'.get? b = some o') →
      h'.get? s.heap.objs.size = some { cls := .type "list", dict := none, data := .seq its.toArray c', slots := #[] } → EP X pins σ Q (.ref s.heap.objs.size) { s with heap := h' } := fun its r' hz h' c' kp e =>
    ⟨.ref s.heap.objs.size, _, I.laid (t' := s.toks) kp (Nat.le_refl _) (show ObjOk X.prog X.w _ h' _ (.lst ys) from ⟨hz, its, c', r', e⟩), rfl, q _ (I.hok.fresh (Nat.le_refl _))⟩
  rcases hq with hq | hq
  · obtain ⟨its, r', pl, hz⟩ := I.list hq
    have hlen := r'.length
    obtain ⟨o, ho, hc, n, hd⟩ := pl.isList
    exact call_list_seq p (.inl rfl) ho hc hd (fun h' c' kp e => fin its r' hz h' c' kp e) (by simp only [List.size_toArray] <;> omega)
  · obtain ⟨its, r', pl, hz⟩ := I.tuple hq
    have hlen := r'.length
    obtain ⟨o, ho, hc, n, hd⟩ := pl
    exact call_list_seq p (.inr rfl) ho hc hd (fun h' c' kp e => fin its r' hz h' c' kp e) (by simp only [List.size_toArray] <;> omega)
theorem call_tuple_of : CallR X (.type "tuple") (fun xs H Q => ∃ p ys, xs = [.ref p] ∧ ((SqL X.K H p ys ∧ ∀ l, H l = none → Q (.ref l) (upd H l (.tup ys))) ∨ (SqT X.K H p ys ∧ Q (.ref p) H))) := by
  intro pins s σ H xs us Q I r h
  obtain ⟨p, ys, rfl, h⟩ := h
  obtain ⟨u, rfl, rx⟩ := vals1 r
  cases rx
  rcases h with ⟨hq, q⟩ | ⟨hq, q⟩
  · obtain ⟨its, r', pl, hz⟩ := I.list hq
    have hlen := r'.length
    refine call_tuple_list pl.isList (fun h' kp => ?_) (by simp only [List.size_toArray] <;> omega)
    have I1 : Inv X pins σ H { s with heap := h' } := I.kept (t' := s.toks) kp
    have I2 : Inv X pins σ (upd H h'.objs.size (.tup ys)) { s with heap := h'.push { cls := .type "tuple", data := .seq its.toArray } } :=
      I1.laid (t' := s.toks) (fun b o e => Heap.get?_push_of_some _ e) (Nat.le_refl _) (show ObjOk X.prog X.w _ _ _ (.tup ys) from ⟨hz, its, r', IsTup.new _ _⟩)
    exact ⟨.ref h'.objs.size, _, I2, rfl, q _ (I1.hok.fresh (Nat.le_refl _))⟩
  · obtain ⟨its, r', pl, hz⟩ := I.tuple hq
    exact call_tuple_same pl ⟨.ref p, H, I, rfl, q⟩

noncomputable def tyV (K : PySem.W.Frag) (T : String) (x : V) (H : Hp) : Prop := match x with
  | .str _ => T = "str"
  | .int _ => T = "int"
  | .ref p => (T = "list" ∧ ∃ xs, SqL K H p xs) ∨ (T = "tuple" ∧ ∃ o, K.lookup p = some o ∧ o.cls = .type "tuple" ∧ o.dict = none) ∨
      (T = "dict" ∧ ((∃ kvs, H p = some (.dK kvs)) ∨ ∃ kvs, H p = some (.dT kvs))) ∨ (T = "set" ∧ ∃ S n, H p = some (.set S n))
  | _ => False
theorem tyV_is {pins : List (Addr × Obj)} {σ : St} {H : Hp} {s : Shared} {T : String} {x : V} {v : Value} (I : Inv X pins σ H s) (r : RelV x v) (ty : tyV X.K T x H) :
    s.TypeIs v T ∧ ∀ a, v = .ref a → ∃ ob, s.heap.get? a = some ob ∧ ob.dict = none := by
  cases x with
  | str z =>
    obtain ⟨t, rfl⟩ := r
    cases (show T = "str" from ty)
    exact ⟨typeIs_str s z t, fun _ e => nomatch e⟩
  | int i =>
    obtain ⟨t, rfl⟩ := r
    cases (show T = "int" from ty)
    exact ⟨typeIs_int s i t, fun _ e => nomatch e⟩
  | ref p =>
    cases r
    rcases ty with ⟨rfl, xs, hq⟩ | ⟨rfl, o, hk, hc, hd⟩ | ⟨rfl, hk⟩ | ⟨rfl, S, n, hk⟩
    · obtain ⟨its, _, pl, _⟩ := I.list hq
      refine ⟨pl.isList.typeIs, fun a e => ?_⟩
      cases e
      obtain ⟨o, n, e, c, hd, _⟩ := pl
      exact ⟨o, e, hd⟩
    · refine ⟨⟨o, I.kIn p o hk, hc⟩, fun a e => ?_⟩
      cases e
      exact ⟨o, I.kIn _ o hk, hd⟩
    · have z : ∃ o, s.heap.get? p = some o ∧ o.ExactDict := by
        rcases hk with ⟨kvs, hk⟩ | ⟨kvs, hk⟩
        · obtain ⟨_, _, _, _, o, _, _, e, ex, _⟩ := I.hok p _ hk
          exact ⟨o, e, ex⟩
        · obtain ⟨_, _, _, _, o, _, _, e, ex, _⟩ := I.hok p _ hk
          exact ⟨o, e, ex⟩
      obtain ⟨o, e, ex⟩ := z
      refine ⟨⟨o, e, ex.1⟩, fun a e2 => ?_⟩
      cases e2
      exact ⟨o, e, ex.2.1⟩
    · obtain ⟨o, _, _, _, e, ex, _⟩ := I.hok p _ hk
      refine ⟨⟨o, e, ex.1⟩, fun a e2 => ?_⟩
      cases e2
      exact ⟨o, e, ex.2.1⟩
  | _ => exact False.elim ty
noncomputable def tBM0 (K : PySem.W.Frag) (T : String) (r : V → List V → Hp → VK → Prop) (to : TE) : TE := fun σ H Q => to σ H fun x H1 => tyV K T x H1 ∧ r x [] H1 Q
noncomputable def tBM (K : PySem.W.Frag) (T : String) (r : V → List V → Hp → VK → Prop) (to : TE) (t : TA) : TE := fun σ H Q => to σ H fun x H1 => tyV K T x H1 ∧ t σ H1 fun xs H2 => r x xs H2 Q
variable {o e : Expr} {es : List Expr} {to : TE} {t : TA} {name : Str} {apos cpos : Pos} {T id : String} {r : V → List V → Hp → VK → Prop}
theorem pe_bm0 (pa : PlainAttrs T) (slot : Slot T name id) (hty : typeOf (.builtin id) = pure (.type "method_descriptor")) (hm : MtR X id r) (ho : PE X o to)
    (hbase : attributeBase o name X.env (eval o X.env) = eval o X.env := by rfl) (hline : (apos.endLine == cpos.line) = true := by rfl) : PE X (.Call (.Attribute o name apos) [] [] cpos) (tBM0 X.K T r to) := by
  intro pins s σ H Q I h
  refine wpAny_Call_method0_late hbase hline (thn (ho pins s σ H _ I h) fun v s1 zq65 => ?_)
  obtain ⟨x, H1, I1, r1, ty, q1⟩ := zq65
  obtain ⟨h1, h2⟩ := tyV_is I1 r1 ty
  exact ⟨T, id, pa, slot, hty, h1, h2, Calls.callWith_builtin rfl (PySem.evalArgs_none (hm pins s1 σ H1 x [] v [] Q I1 r1 .nil q1))⟩
theorem pe_bm (pa : PlainAttrs T) (slot : Slot T name id) (hty : typeOf (.builtin id) = pure (.type "method_descriptor")) (hm : MtR X id r) (ho : PE X o to) (ha : PA X (e :: es) t)
    (hbase : attributeBase o name X.env (eval o X.env) = eval o X.env := by rfl)
    (hfew : ((backTo cpos (starEach (e :: es) X.env)).all (fun x => !x.1) && (backToKw cpos (keywordEach [] X.env)).all (fun x => x.1.isSome)
      && decide ((e :: es).length + ([] : List Keyword).length + (if ([] : List Keyword).isEmpty then 0 else 1) < 30)) = true := by rfl)
    (hline : (apos.endLine == cpos.line) = true := by rfl) (hs : starEach (e :: es) X.env = (false, eval e X.env) :: starEach es X.env := by rfl) (hplain : (backTo cpos (starEach es X.env)).any (·.1) = false := by rfl) :
    PE X (.Call (.Attribute o name apos) (e :: es) [] cpos) (tBM X.K T r to t) := by
  intro pins s σ H Q I h
  refine wpAny_Call_method_late hbase hfew hline rfl (thn (ho pins s σ H _ I h) fun v s1 zq66 => ?_)
  obtain ⟨x, H1, I1, r1, ty, q1⟩ := zq66
  obtain ⟨h1, h2⟩ := tyV_is I1 r1 ty
  refine ⟨T, id, pa, slot, hty, h1, h2, ?_⟩
  have hA := ha cpos pins s1 σ H1 _ I1 q1
  rw [hs] at hA ⊢
  refine Calls.callWith_builtin (by show (false || (backTo cpos (starEach es X.env)).any (·.1)) = false; rw [hplain] <;> rfl) (Calls.evalArgs_plain ?_)
  exact thn hA fun us s2 zq67 => (by obtain ⟨vs, H2, I2, r2, q2⟩ := zq67; exact hm pins s2 σ H2 x vs v us Q I2 r1 r2 q2)
/- xs.append(e), list.index on a module's tuple .. are MtR facts of 06m -/
end
end L2

namespace L2
open PySem PySem.Spec PyProof.Rows

noncomputable def MtM (X : Cx) (id : String) (r : V → List V → Hp → VK → Prop) : Prop :=
  ∀ (pins : List (Addr × Obj)) (s : Shared) (σ : St) (H : Hp) (x : V) (xs : List V) (v : Value) (us : List Value) (Q : VK), Inv X pins σ H s → RelV x v → Vals xs us → r x xs H Q →
    wpAny (model X.prog X.w) X.A (call (.builtin id) (v :: us)) (EP X pins σ Q) X.xe s

theorem Vals.one : ∀ {x : V} {us : List Value}, Vals [x] us → ∃ u, us = [u] ∧ RelV x u
  | _, _, .cons r .nil => ⟨_, rfl, r⟩
theorem Vals.rep {xs : List V} {us : List Value} (h : Vals xs us) : ∀ k : Nat, Vals (List.replicate k xs).flatten (List.replicate k us).flatten
  | 0 => .nil
  | k + 1 => by
    rw [List.replicate_succ, List.replicate_succ, List.flatten_cons, List.flatten_cons]
    exact Vals.append h (Vals.rep h k)
theorem foldl_rep (its : List Value) : ∀ (k : Nat) (acc : List Value),
    List.foldl (fun x1 x2 => x1 ++ x2) acc.toArray (List.replicate k its.toArray) = (acc ++ (List.replicate k its).flatten).toArray
  | 0, acc => by simp
  | k + 1, acc => by
    have e : acc.toArray ++ its.toArray = (acc ++ its).toArray := by simp
    have e2 : (acc ++ its) ++ (List.replicate k its).flatten = acc ++ (List.replicate (k + 1) its).flatten := by
      rw [List.replicate_succ, List.flatten_cons, List.append_assoc]
    rw [← e2, ← foldl_rep its k (acc ++ its), ← e, List.replicate_succ, List.foldl_cons]

section
variable {X : Cx} {pins : List (Addr × Obj)} {σ : St} {H : Hp} {s : Shared} {l b : Addr} {xs ys zs : List V}

theorem Inv.lset {its its' : List Value} {n : Nat} {f : Array Value → Array Value} {t' : Nat} (I : Inv X pins σ H s) (hH : H l = some (.lst xs))
    (e : s.heap.get? l = some { cls := .type "list", data := .seq its.toArray n }) (hf : f its.toArray = its'.toArray) (hv : Vals ys its') (hz : ys.length ≤ sizeLine) :
    Inv X pins σ (upd H l (.lst ys)) { s with heap := s.heap.update l (Obj.mapSeq f), toks := t' } := by
  have q := PySem.IsL.update e f
  rw [hf] at q
  refine I.write (x := l) (e := l) (by rw [hH]; exact trivial) (.inl rfl) (fun b' u hb hu => (Heap.get?_update_other s.heap (Obj.mapSeq f) (Ne.symm hb)).trans hu) ⟨_, q⟩ ?_
  exact ⟨hz, its', _, hv, q⟩
theorem Inv.lnew {its : List Value} {t' : Nat} (I : Inv X pins σ H s) (hv : Vals ys its) (hz : ys.length ≤ sizeLine) :
    Inv X pins σ (upd H s.heap.objs.size (.lst ys)) { s with heap := s.heap.push { cls := .type "list", data := .seq its.toArray }, toks := t' } :=
  I.laid (fun _ _ q => Heap.get?_push_of_some _ q) (Nat.le_refl _) ⟨hz, its, 0, hv, Heap.get?_push_size _ rfl⟩
theorem Inv.fresh (I : Inv X pins σ H s) : H s.heap.objs.size = none := I.hok.fresh (Nat.le_refl _)
theorem Inv.lstM (I : Inv X pins σ H s) (hH : H l = some (.lst xs)) : xs.length ≤ sizeLine ∧ ∃ (its : List Value) (n : Nat), Vals xs its ∧ xs.length = its.length ∧ s.heap.get? l = some { cls := .type "list", data := .seq its.toArray n } := by
  obtain ⟨z, its, n, r, e⟩ := I.hok l _ hH
  exact ⟨z, its, n, r, r.length, e⟩

theorem notLongL {n : Nat} (h : n ≤ sizeLine) : Builtin.List.listTooLong n = false := by
  unfold Builtin.List.listTooLong
  exact decide_eq_false (by omega)
end

section
variable {X : Cx}

noncomputable def rAppend : V → List V → Hp → VK → Prop := fun x vs H Q => ∃ l xs y, x = .ref l ∧ vs = [y] ∧ H l = some (.lst xs) ∧ xs.length < sizeLine ∧ Q .non (upd H l (.lst (xs ++ [y])))
theorem mt_append : MtM X "list.append" rAppend := by
  intro pins s σ H x vs v us Q I rx rv h
  obtain ⟨l, xs, y, rfl, rfl, hH, hz, q⟩ := h
  cases rx
  obtain ⟨u, rfl, ru⟩ := rv.one
  obtain ⟨z, its, n, r, hl, e⟩ := I.lstM hH
  refine call_meets F.slot_list_append ⟨_, e, rfl⟩ F.entry_list_append (F.args_list_append_2 _ _) (PySem.list_append l its.toArray n u (by rw [List.size_toArray]; omega)) ⟨e, ?_⟩
  refine ⟨.non, _, I.lset (its' := its ++ [u]) hH e (by simp) (r.append (.cons ru .nil)) ?_, rfl, q⟩
  rw [List.length_append, List.length_singleton]
  omega






noncomputable def rCat : R2 := fun x y H Q => ∃ l b xs zs, x = .ref l ∧ y = .ref b ∧ H l = some (.lst xs) ∧ H b = some (.lst zs) ∧ xs.length + zs.length ≤ sizeLine ∧ ∀ p, H p = none → Q (.ref p) (upd H p (.lst (xs ++ zs)))
theorem op_cat : OpR X (binaryOp .Add) rCat := by
  intro pins s σ H x y v u Q I rx ry h
  obtain ⟨l, b, xs, zs, rfl, rfl, hH, hB, hz, q⟩ := h
  cases rx
  cases ry
  obtain ⟨z, its, n, r, hl, e⟩ := I.lstM hH
  obtain ⟨z2, its2, n2, r2, hl2, e2⟩ := I.lstM hB
  refine PySem.P.add_list e e2 ?_ (by rw [List.size_toArray, List.size_toArray]; omega)
  have ea : its.toArray ++ its2.toArray = (its ++ its2).toArray := by simp
  rw [ea]
  exact ⟨.ref _, _, I.lnew (t' := s.toks) (r.append r2) (by rw [List.length_append]; omega), rfl, q _ I.fresh⟩
noncomputable def rRep : R2 := fun x y H Q => ∃ l k xs, x = .ref l ∧ y = .int k ∧ H l = some (.lst xs) ∧ -(2 ^ 63) ≤ k ∧ k < 2 ^ 63 ∧ xs.length * k.toNat ≤ sizeLine ∧
  ∀ p, H p = none → Q (.ref p) (upd H p (.lst (List.replicate k.toNat xs).flatten))
theorem len_rep {α : Type} (xs : List α) (k : Nat) : (List.replicate k xs).flatten.length = k * xs.length := by
  induction k with
  | zero => simp
  | succ k ih => rw [List.replicate_succ, List.flatten_cons, List.length_append, ih, Nat.succ_mul, Nat.add_comm]
theorem op_rep : OpR X (binaryOp .Mult) rRep := by
  intro pins s σ H x y v u Q I rx ry h
  obtain ⟨l, k, xs, rfl, rfl, hH, h1, h2, hz, q⟩ := h
  cases rx
  obtain ⟨t, rfl⟩ := ry
  obtain ⟨z, its, n, r, hl, e⟩ := I.lstM hH
  have hlen : its.toArray.size * k.toNat ≤ sizeLine := by rw [List.size_toArray, ← hl]; exact hz
  have hcap : ¬ its.toArray.size * k.toNat > (2 ^ 63 - 1) / 8 := by
    have : (sizeLine : Nat) ≤ (2 ^ 63 - 1) / 8 := by decide
    omega
  have hfit : ¬ (!Builtin.List.listFitsIndex k) = true := by
    rw [fitsIndex_both h1 h2]
    exact Bool.false_ne_true
  have hlong : ¬ Builtin.List.listTooLong (its.toArray.size * k.toNat) = true := by
    rw [notLongL hlen]
    exact Bool.false_ne_true
  have hnew : List.foldl (fun x1 x2 => x1 ++ x2) #[] (List.replicate (if its.toArray.isEmpty = true then 0 else k.toNat) its.toArray) = (List.replicate k.toNat its).flatten.toArray := by
    have f0 : ∀ m : Nat, List.foldl (fun x1 x2 => x1 ++ x2) #[] (List.replicate m its.toArray) = (List.replicate m its).flatten.toArray := fun m => by
      have := foldl_rep its m []
      rw [List.nil_append] at this
      exact this
    rw [f0]
    cases its with
    | nil => simp
    | cons a r' => rw [if_neg (by simp)]
  refine wpAny_binaryOp_repeat_ref (T := "list") (U := "int") (by decide) ⟨_, e, rfl⟩ (fun s' => typeIs_int s' k t) noFill_list_mul F.fills_int_mul F.slot_int_rmul repeat_list F.slot_int_index.lookup
    (call_meets F.slot_int_rmul (typeIs_int s k t) F.entry_int_rmul (F.args_int_rmul_2 _ _) (int___rmul___int_list k t l its.toArray n)
      ⟨e, rfl, ⟨_, e, rfl⟩, call_meets F.slot_list_mul ⟨_, e, rfl⟩ F.entry_list_mul (F.args_list_mul_2 _ _) (AutoListH.list___mul___list_int_3 l its.toArray n k t hfit hcap hlong) ⟨e, ?_⟩⟩)
  rw [hnew]
  exact ⟨.ref _, _, I.lnew (t' := s.toks) (r.rep k.toNat) (by rw [len_rep, Nat.mul_comm]; exact hz), rfl, q _ I.fresh⟩

end

section
variable {prog : Program} {w : World} {A : Around} {E : Value → Shared → Prop} {s : Shared}
end

section
variable {X : Cx}
end
end L2

namespace L2
open PySem PySem.Spec PyProof.Rows

section
variable {κ : Type} [DecidableEq κ]
noncomputable def valV (kvs : List (κ × V)) (k : κ) : Option V := (kvs.find? fun kv => decide (kv.1 = k)).map (·.2)
noncomputable def putK (kvs : List (κ × V)) (k : κ) (v : V) : List (κ × V) :=
  if (kvs.any fun kv => decide (kv.1 = k)) = true then kvs.map (fun kv => if kv.1 = k then (kv.1, v) else kv) else kvs ++ [(k, v)]

theorem valV_pos {p : κ × V} {r : List (κ × V)} {k : κ} (e : p.1 = k) : valV (p :: r) k = some p.2 := by simp [valV, List.find?_cons, e]
theorem valV_neg {p : κ × V} {r : List (κ × V)} {k : κ} (e : ¬ p.1 = k) : valV (p :: r) k = valV r k := by simp [valV, List.find?_cons, e]
theorem valV_any (k : κ) : ∀ kvs : List (κ × V), (kvs.any fun kv => decide (kv.1 = k)) = (valV kvs k).isSome
  | [] => rfl
  | p :: r => by
    rw [List.any_cons]
    by_cases e : p.1 = k
    · simp only [valV_pos e, decide_eq_true e, Bool.true_or, Option.isSome_some]
    · rw [valV_neg e, decide_eq_false e, Bool.false_or]; exact valV_any k r
theorem length_putK (kvs : List (κ × V)) (k : κ) (v : V) : (putK kvs k v).length ≤ kvs.length + 1 := by
  unfold putK
  split
  · rw [List.length_map]; omega
  · rw [List.length_append, List.length_cons, List.length_nil]; omega

theorem RelO.isSome_eq {o : Option V} {u : Option Value} (r : RelO o u) : o.isSome = u.isSome := by
  cases o with
  | none => cases u with
    | none => rfl
    | some _ => exact (show False from r).elim
  | some _ => cases u with
    | none => exact (show False from r).elim
    | some _ => rfl
theorem RelO.getD {o : Option V} {u : Option Value} {d : V} {d' : Value} (r : RelO o u) (rd : RelV d d') : RelV (o.getD d) (u.getD d') := by
  cases o with
  | none => cases u with
    | none => exact rd
    | some _ => exact (show False from r).elim
  | some _ => cases u with
    | none => exact (show False from r).elim
    | some _ => exact r

theorem KV.val {kvs : List (κ × V)} {vs : List (κ × Value)} (r : KV kvs vs) (k : κ) : RelO (valV kvs k) (valueAt vs k) := by
  unfold KV at r
  induction r with
  | nil => exact True.intro
  | @cons p q ps qs h t ih =>
    obtain ⟨h1, h2⟩ := h
    by_cases e : p.1 = k
    · have e' : q.1 = k := h1.symm.trans e
      have b : valueAt (q :: qs) k = some q.2 := by simp [valueAt, List.find?_cons, e']
      rw [valV_pos e, b]; exact h2
    · have e' : ¬ q.1 = k := fun z => e (h1.trans z)
      have b : valueAt (q :: qs) k = valueAt qs k := by simp [valueAt, List.find?_cons, e']
      rw [valV_neg e, b]; exact ih
theorem KV.any {kvs : List (κ × V)} {vs : List (κ × Value)} (r : KV kvs vs) (k : κ) : (kvs.any fun kv => decide (kv.1 = k)) = vs.any fun kv => decide (kv.1 = k) := by
  unfold KV at r
  induction r with
  | nil => rfl
  | cons h t ih => rw [List.any_cons, List.any_cons, ih, h.1]
theorem KV.repl {kvs : List (κ × V)} {vs : List (κ × Value)} (r : KV kvs vs) (k : κ) {y : V} {u : Value} (ry : RelV y u) :
    KV (kvs.map fun kv => if kv.1 = k then (kv.1, y) else kv) (vs.map fun kv => if kv.1 = k then (kv.1, u) else kv) := by
  unfold KV at r ⊢
  induction r with
  | nil => exact .nil
  | @cons p q ps qs h t ih =>
    rw [List.map_cons, List.map_cons]
    refine .cons ?_ ih
    obtain ⟨h1, h2⟩ := h
    by_cases e : p.1 = k
    · rw [if_pos e, if_pos (h1.symm.trans e)]; exact ⟨h1, ry⟩
    · rw [if_neg e, if_neg (fun z => e (h1.trans z))]; exact ⟨h1, h2⟩
theorem KV.put {kvs : List (κ × V)} {vs : List (κ × Value)} (r : KV kvs vs) (k : κ) {y : V} {u : Value} (ry : RelV y u) : KV (putK kvs k y) (stored vs k u) := by
  unfold putK stored
  rw [r.any k]
  by_cases e : (vs.any fun kv => decide (kv.1 = k)) = true
  · rw [if_pos e, if_pos e]; exact r.repl k ry
  · rw [if_neg e, if_neg e]; exact Paired.snoc r ⟨rfl, ry⟩
theorem KV.length {kvs : List (κ × V)} {vs : List (κ × Value)} (r : KV kvs vs) : kvs.length = vs.length := Paired.length r
end


theorem kV_is {P : Program} {w : World} {k : Key} {u : Value} (r : RelV (kV k) u) : (mixKind P w).is k u = true := by
  cases k with
  | inl i => obtain ⟨t, e⟩ := (show ∃ t, u = Value.int i t from r); subst e; exact mixKind_int P w i t
  | inr x => obtain ⟨t, e⟩ := (show ∃ t, u = Value.str x t from r); subst e; exact mixKind_str P w x t
theorem items_are {P : Program} {w : World} : ∀ {ks : List Key} {us : List Value}, Vals (ks.map kV) us → ItemsAre (mixKind P w) ks us
  | [], _, r => by rw [List.map_nil] at r; cases r; exact .nil
  | k :: ks, _, r => by
    rw [List.map_cons] at r
    cases r with
    | cons h t => exact .cons (kV_is h) (items_are t)

noncomputable abbrev KT (H : Hp) : List (List Key × V) → List (List Key × Addr × Value) → Prop := Paired fun p q => p.1 = q.1 ∧ H q.2.1 = some (.tup (p.1.map kV)) ∧ RelV p.2 q.2.2
theorem KT.val {H : Hp} {kvs : List (List Key × V)} {xs : List (List Key × Addr × Value)} (r : KT H kvs xs) (k : List Key) : RelO (valV kvs k) ((atKey xs k).map (·.2)) := by
  induction r with
  | nil => exact True.intro
  | @cons p q ps qs h t ih =>
    obtain ⟨h1, _, h2⟩ := h
    by_cases e : p.1 = k
    · have e' : q.1 = k := h1.symm.trans e
      have b : atKey (q :: qs) k = some q.2 := by simp [atKey, List.find?_cons, e']
      rw [valV_pos e, b]; exact h2
    · have e' : ¬ q.1 = k := fun z => e (h1.trans z)
      have b : atKey (q :: qs) k = atKey qs k := by simp [atKey, List.find?_cons, e']
      rw [valV_neg e, b]; exact ih
theorem KT.repl {H : Hp} {kvs : List (List Key × V)} {xs : List (List Key × Addr × Value)} (r : KT H kvs xs) (k : List Key) {y : V} {u : Value} (ry : RelV y u) :
    KT H (kvs.map fun kv => if kv.1 = k then (kv.1, y) else kv) (xs.map (putAt k u)) := by
  induction r with
  | nil => exact .nil
  | @cons p q ps qs h t ih =>
    rw [List.map_cons, List.map_cons]
    refine .cons ?_ ih
    obtain ⟨h1, h2, h3⟩ := h
    unfold putAt
    by_cases e : p.1 = k
    · rw [if_pos e, if_pos (h1.symm.trans e)]; exact ⟨h1, h2, ry⟩
    · rw [if_neg e, if_neg (fun z => e (h1.trans z))]; exact ⟨h1, h2, h3⟩
theorem KT.put {H : Hp} {kvs : List (List Key × V)} {xs : List (List Key × Addr × Value)} (r : KT H kvs xs) (k : List Key) {b : Addr} {y : V} {u : Value} (hb : H b = some (.tup (k.map kV))) (ry : RelV y u) :
    KT H (putK kvs k y) (storedH xs k b u) := by
  have e : (kvs.any fun kv => decide (kv.1 = k)) = (atKey xs k).isSome := by
    rw [valV_any, (r.val k).isSome_eq, Option.isSome_map]
  unfold putK storedH
  rw [e]
  by_cases q : (atKey xs k).isSome = true
  · rw [if_pos q, if_pos q]; exact r.repl k ry
  · rw [if_neg q, if_neg q]; exact Paired.snoc r ⟨rfl, hb, ry⟩
theorem KT.keeps {H H' : Hp} {kvs : List (List Key × V)} {xs : List (List Key × Addr × Value)} (r : KT H kvs xs) (ht : ∀ b ys, H b = some (.tup ys) → H' b = some (.tup ys)) : KT H' kvs xs :=
  Paired.mapP r fun _ _ z => ⟨z.1, ht _ _ z.2.1, z.2.2⟩

section
variable {P : Program} {w : World} {H : Hp} {h : Heap} {a : Addr}
theorem rd_of {u : HO} (ok : HOk P w H h) (e : Rd H a u) : ObjOk P w H h a u := e.ok ok
theorem dk_rd {kvs : List (Key × V)} (ok : HOk P w H h) (e : Rd H a (.dK kvs)) : kvs.length ≤ sizeLine ∧ (a == sysModules) = false ∧ ∃ vs, KV kvs vs ∧ h.DictOf (mixKind P w) a vs :=
  show ObjOk P w H h a (.dK kvs) from rd_of ok e
theorem dk_of {kvs : List (Key × V)} (ok : HOk P w H h) (e : H a = some (.dK kvs)) : kvs.length ≤ sizeLine ∧ (a == sysModules) = false ∧ ∃ vs, KV kvs vs ∧ h.DictOf (mixKind P w) a vs := dk_rd ok (.inl e)
theorem key_of {ks : List Key} (ok : HOk P w H h) (e : H a = some (.tup (ks.map kV))) : (tupleKind (mixKind P w)).is h ks a := by
  obtain ⟨_, its, r, o, h1, h2, n, h3⟩ := (show ObjOk P w H h a (.tup (ks.map kV)) from ok a _ e)
  exact ⟨o, its.toArray, n, h1, h2, h3, by simpa using items_are r⟩
theorem dt_rd {kvs : List (List Key × V)} (ok : HOk P w H h) (e : Rd H a (.dT kvs)) : kvs.length ≤ sizeLine ∧ (a == sysModules) = false ∧
    ∃ xs, KT H kvs xs ∧ h.DictOfH (tupleKind (mixKind P w)) a xs := by
  obtain ⟨z, y, xs, r, o, es, ep, h1, h2, h3, h4, h5⟩ := (show ObjOk P w H h a (.dT kvs) from rd_of ok e)
  refine ⟨z, y, xs, r, o, es, ep, h1, h2, h3, h4, fun x hx => ?_, h5⟩
  have all : ∀ {l : List (List Key × V)} {m : List (List Key × Addr × Value)}, KT H l m → ∀ x ∈ m, (tupleKind (mixKind P w)).is h x.1 x.2.1 := by
    intro l m q
    induction q with
    | nil => intro x hx; exact nomatch hx
    | @cons p q ps qs hq t ih =>
      intro x hx
      rcases List.mem_cons.mp hx with e | hx
      · subst e
        exact key_of ok (by rw [← hq.1]; exact hq.2.1)
      · exact ih x hx
  exact all r x hx
theorem dt_of {kvs : List (List Key × V)} (ok : HOk P w H h) (e : H a = some (.dT kvs)) : kvs.length ≤ sizeLine ∧ (a == sysModules) = false ∧
    ∃ xs, KT H kvs xs ∧ h.DictOfH (tupleKind (mixKind P w)) a xs := dt_rd ok (.inl e)
end

noncomputable def DGet (H : Hp) (a : Addr) (y : V) (r : Option V) : Prop :=
  (∃ kvs k, Rd H a (.dK kvs) ∧ y = kV k ∧ r = valV kvs k) ∨ ∃ kvs k b, Rd H a (.dT kvs) ∧ y = .ref b ∧ H b = some (.tup (k.map kV)) ∧ r = valV kvs k
noncomputable def DPut (H : Hp) (a : Addr) (y v : V) (H' : Hp) : Prop :=
  (∃ kvs k, H a = some (.dK kvs) ∧ y = kV k ∧ kvs.length < sizeLine ∧ H' = upd H a (.dK (putK kvs k v))) ∨
  ∃ kvs k b, H a = some (.dT kvs) ∧ y = .ref b ∧ H b = some (.tup (k.map kV)) ∧ kvs.length < sizeLine ∧ H' = upd H a (.dT (putK kvs k v))
theorem DGet.k {H : Hp} {a : Addr} {kvs : List (Key × V)} {k : Key} (e : H a = some (.dK kvs)) : DGet H a (kV k) (valV kvs k) := .inl ⟨kvs, k, .inl e, rfl, rfl⟩
theorem DPut.k {H : Hp} {a : Addr} {kvs : List (Key × V)} {k : Key} {v : V} (e : H a = some (.dK kvs)) (hl : kvs.length < sizeLine) : DPut H a (kV k) v (upd H a (.dK (putK kvs k v))) := .inl ⟨kvs, k, e, rfl, hl, rfl⟩


section
variable {X : Cx} {pins : List (Addr × Obj)} {σ : St} {H : Hp} {s : Shared} {a : Addr} {y v : V} {u r : Value} {o : Option V} {A : Around} {E : Value → Shared → Prop}

theorem Inv.big (I : Inv X pins σ H s) : sysModules < s.heap.objs.size := by
  have h : mainGlobals < s.heap.objs.size := (I.mod.glob.keeps I.bk).lt
  exact Nat.lt_trans (by decide) h

theorem d_getItem {Q : Value → Shared → Prop} (hu : A.units + 1 < cLine) (I : Inv X pins σ H s) (g : DGet H a y (some v)) (ry : RelV y u) (h : ∀ w' s', Inv X pins σ H s' → RelV v w' → Q w' s') :
    wpAny (model X.prog X.w) A (getItem (.ref a) u) Q E s := by
  rcases g with ⟨kvs, k, e, ey, l⟩ | ⟨kvs, k, b, e, ey, eb, l⟩
  · subst ey
    obtain ⟨z, hd, vs, rel, dd⟩ := dk_rd I.hok e
    obtain ⟨w', hw, rw'⟩ := RelO.some_of (v := v) (o := valueAt vs k) (by rw [l]; exact rel.val k)
    exact wpAny_getItem_of (kV_is ry) dd.mapOf hw (h w' _ (I.tok _) rw')
  · subst ey
    cases (show u = Value.ref b from ry)
    obtain ⟨z, hd, xs, rel, dd⟩ := dt_rd I.hok e
    obtain ⟨w', hw, rw'⟩ := RelO.some_of (v := v) (o := (atKey xs k).map (·.2)) (by rw [l]; exact rel.val k)
    obtain ⟨p, hp, hp2⟩ := Option.map_eq_some_iff.mp hw
    refine wpAny_getItem_heap (tupleKind_room_in1 hu) (key_of I.hok eb) dd hp ?_
    rw [hp2]
    exact h w' _ (I.tok _) rw'
theorem d_write {h' : Heap} {t' : Nat} {ob : HO} (I : Inv X pins σ H s) (mu : Mut (H a)) (hs : Heap.SameBut a s.heap h') (he : ∃ q, h'.get? a = some q) (new : ObjOk X.prog X.w (upd H a ob) h' a ob) :
    Inv X pins σ (upd H a ob) { s with heap := h', toks := t' } :=
  I.write (x := a) (e := a) mu (.inl rfl) (fun b q hb z => (hs.2 b hb).trans z) he new
theorem dk_new {P : Program} {w : World} {H' : Hp} {h' : Heap} {kvs : List (Key × V)} {vs : List (Key × Value)} (z : kvs.length ≤ sizeLine) (hd : (a == sysModules) = false) (rel : KV kvs vs) (dd : h'.DictOf (mixKind P w) a vs) :
    ObjOk P w H' h' a (.dK kvs) := ⟨z, hd, vs, rel, dd⟩
theorem d_setItem {H' : Hp} {Q : Unit → Shared → Prop} (hu : A.units + 1 < cLine) (I : Inv X pins σ H s) (g : DPut H a y v H') (ry : RelV y u) (rv : RelV v r) (h : ∀ s', Inv X pins σ H' s' → Q () s') :
    wpAny (model X.prog X.w) A (setItem (.ref a) u r) Q E s := by
  rcases g with ⟨kvs, k, e, ey, l, eH⟩ | ⟨kvs, k, b, e, ey, eb, l, eH⟩
  · subst ey eH
    obtain ⟨z, hd, vs, rel, dd⟩ := dk_of I.hok e
    have hz : vs.length ≤ sizeLine := by rw [← rel.length]; exact z
    have hl : (putK kvs k v).length ≤ sizeLine := by have := length_putK kvs k v; omega
    refine wpAny_setItem_pairs (hsz := hz) (kV_is ry) dd fun h' dd' hs => h _ ?_
    have he : ∃ q, h'.get? a = some q := let ⟨q, _, _, hq, _⟩ := dd'; ⟨q, hq⟩
    exact d_write I (by rw [e]; exact True.intro) hs he (dk_new hl hd (rel.put k rv) dd')
  · subst ey eH
    cases (show u = Value.ref b from ry)
    obtain ⟨z, hd, xs, rel, dd⟩ := dt_of I.hok e
    have hz : xs.length ≤ sizeLine := by rw [← Paired.length rel]; exact z
    have hl : (putK kvs k v).length ≤ sizeLine := by have := length_putK kvs k v; omega
    refine wpAny_setItem_heap (hsz := hz) (tupleKind_room_in1 hu) (key_of I.hok eb) dd fun h' dd' hs => h _ ?_
    obtain ⟨q, es, ep, hq, h2, h3, h4, _, h5⟩ := dd'
    refine d_write I (by rw [e]; exact True.intro) hs ⟨q, hq⟩ ⟨hl, hd, _, (rel.put k eb rv).keeps fun c ys ec => ?_, q, es, ep, hq, h2, h3, h4, h5⟩
    rw [upd_ne (ne_of ec e (fun z => nomatch z))]
    exact ec
end

section
variable {X : Cx} {pins : List (Addr × Obj)} {σ : St} {H : Hp} {s : Shared} {a : Addr} {kvs : List (Key × V)} {k : Key} {u : Value} {A : Around} {E : Value → Shared → Prop}
end


noncomputable def NoSl (i : Expr) : Prop := ∀ ov iv, subscripted i false ov iv = operate [ov, iv] (getItem ov iv)
theorem subD_of {prog : Program} {w : World} {A : Around} {E : Value → Shared → Prop} {s : Shared} {env : Env} {value slice : Expr} {pos : Pos} {T id : String} {Q : Value → Shared → Prop}
    (hl : typeLookup (.type T) "__getitem__" = pure (some (.builtin id))) (hs : NoSl slice)
    (h : wpAny (model prog w) A (eval value env) (fun o s₁ => wpAny (model prog w) A (eval slice env) (fun i s₂ => s₂.TypeIs o T ∧ wpAny (model prog w) A (getItem o i) Q E s₂) E s₁) E s) :
    wpAny (model prog w) A (eval (.Subscript value slice pos) env) Q E s := by
  refine Subscript_ (wpAny_mono h (fun o s₁ h₁ => wpAny_mono h₁ (fun i s₂ h₂ => ?_) fun _ _ x => x) fun _ _ x => x)
  obtain ⟨hT, h₂⟩ := h₂
  unfold subscriptTail
  refine wpAny_bind ?_
  rw [getitemInPython_of_ne hT.not_modules]
  refine wpAny_bind (wpAny_specialOf hT hl ?_)
  have fin : wpAny (model prog w) A (subscripted slice false o i) (fun r s₃ => wpAny (model prog w) A (letTemporaryGo value o r >>= fun _ => pure r) Q E s₃) E s₂ := by
    rw [hs o i]
    exact wpAny_operating (wpAny_mono h₂ (fun r s₃ h₃ => wpAny_bind (wpAny_letTemporaryGo (wpAny_pure h₃))) fun _ _ x => x)
  first
    | exact wpAny_pure (wpAny_bind fin)
    | exact wpAny_bind (wpAny_pure (wpAny_bind fin))
    | exact wpAny_bind fin

theorem dict_typeIs {X : Cx} {pins : List (Addr × Obj)} {σ : St} {H : Hp} {s : Shared} {a : Addr} {y : V} {o : Option V} (I : Inv X pins σ H s) (g : DGet H a y o) : s.TypeIs (.ref a) "dict" := by
  rcases g with ⟨kvs, k, e, _, _⟩ | ⟨kvs, k, b, e, _, _, _⟩
  · obtain ⟨_, _, vs, _, dd⟩ := dk_rd I.hok e
    exact dd.typeIs
  · obtain ⟨_, _, xs, _, dd⟩ := dt_rd I.hok e
    exact dd.typeIs

noncomputable def tDGet (td ty : TE) : TE := fun σ H Q => td σ H fun x H1 => ty σ H1 fun y H2 => ∃ a v, x = .ref a ∧ DGet H2 a y (some v) ∧ Q v H2
noncomputable def sDPut (td ty tv : TE) : TS := fun D σ H => tv σ H fun v H1 => td σ H1 fun x H2 => ty σ H2 fun y H3 => ∃ a H4, x = .ref a ∧ DPut H3 a y v H4 ∧ D.nx σ H4

section
variable {X : Cx} {o i e value : Expr} {pos pos' tpos : Pos} {td ty tv : TE}
theorem pe_dget (hu : X.A.units + 1 < cLine) (ho : PE X o td) (hi : PE X i ty) (hs : NoSl i) : PE X (.Subscript o i pos) (tDGet td ty) := by
  intro pins s σ H Q I h
  refine subD_of PySem.F.slot_dict_getitem.lookup hs (thn (ho pins s σ H _ I h) fun u s1 ⟨x, H1, I1, rx, q1⟩ => thn (hi pins s1 σ H1 _ I1 q1) fun iv s2 zq68 => ?_)
  obtain ⟨y, H2, I2, ry, a, v, ex, g, q2⟩ := zq68
  subst ex
  obtain rfl : u = Value.ref a := rx
  exact ⟨dict_typeIs I2 g, d_getItem hu I2 g ry fun w' s3 I3 rw' => ⟨v, H2, I3, rw', q2⟩⟩
theorem ps_dput (hu : X.A.units + 1 < cLine) (ho : PE X o td) (hi : PE X i ty) (hv : PE X value tv) (hs : swapsWith value (some (.Subscript o i pos')) pos.line X.env = pure false) :
    PS X (.Assign [.Subscript o i pos'] value pos) (sDPut td ty tv) := by
  intro pins s σ H D I h
  refine wpAny_Assign_Subscript (thn (hv pins s σ H _ I h) fun r s1 ⟨v, H1, I1, rv, q1⟩ => thn (ho pins s1 σ H1 _ I1 q1) fun u s2 ⟨x, H2, I2, rx, q2⟩ => thn (hi pins s2 σ H2 _ I2 q2) fun iv s3 zq71 => ?_) hs
  obtain ⟨y, H3, I3, ry, a, H4, ex, g, q3⟩ := zq71
  subst ex
  obtain rfl : u = Value.ref a := rx
  exact d_setItem hu I3 g ry rv fun s4 I4 => ⟨σ, H4, I4, q3⟩
end


theorem dk_empty {P : Program} {w : World} {H : Hp} (h : Heap) (hb : sysModules < h.objs.size) : ObjOk P w H (h.push { cls := .type "dict", data := .dict #[] }) h.objs.size (.dK []) :=
  ⟨Nat.zero_le _, beq_eq_false_iff_ne.mpr (Ne.symm (Nat.ne_of_lt hb)), [], .nil, Heap.DictOf.new h⟩
section
variable {X : Cx} {pos : Pos}
end

noncomputable def tPairs : List (TE × TE) → St → Hp → (List (V × V) → Hp → Prop) → Prop
  | [], _, H, Q => Q [] H
  | (tk, tv) :: r, σ, H, Q => tk σ H fun x H1 => tv σ H1 fun y H2 => tPairs r σ H2 fun ps H3 => Q ((x, y) :: ps) H3
noncomputable abbrev VV : List (V × V) → List (Value × Value) → Prop := Paired fun p q => RelV p.1 q.1 ∧ RelV p.2 q.2
noncomputable def PPs (X : Cx) (pos : Pos) (keys : List (Option Expr)) (values : List Expr) (trs : List (TE × TE)) : Prop :=
  ∀ (pins : List (Addr × Obj)) (s : Shared) (σ : St) (H : Hp) (Q : List (V × V) → Hp → Prop), Inv X pins σ H s → tPairs trs σ H Q →
    wpAny (model X.prog X.w) X.A (evalPairs (pairTrees keys values X.env pos)) (fun vs s' => ∃ ps H', Inv X pins σ H' s' ∧ VV ps vs ∧ Q ps H') X.xe s
theorem pps_nil {X : Cx} {pos : Pos} : PPs X pos [] [] [] := fun pins s σ H Q I h => pairTrees_nil_walk ⟨[], H, I, .nil, h⟩
theorem pps_cons {X : Cx} {pos : Pos} {k v : Expr} {ks : List (Option Expr)} {vs : List Expr} {tk tv : TE} {trs : List (TE × TE)} (hk : PE X k tk) (hv : PE X v tv) (hr : PPs X pos ks vs trs) :
    PPs X pos (some k :: ks) (v :: vs) ((tk, tv) :: trs) := fun pins s σ H Q I h =>
  pairTrees_cons_walk (thn (hk pins s σ H _ I h) fun u s1 ⟨x, H1, I1, rx, q1⟩ => thn (hv pins s1 σ H1 _ I1 q1) fun w2 s2 ⟨y, H2, I2, ry, q2⟩ =>
    thn (hr pins s2 σ H2 _ I2 q2) fun ws s3 zq75 => (by obtain ⟨ps, H3, I3, rel, q3⟩ := zq75; exact ⟨(x, y) :: ps, H3, I3, .cons ⟨rx, ry⟩ rel, q3⟩))

noncomputable def mergeK (kvs more : List (Key × V)) : List (Key × V) := more.foldl (fun acc kv => putK acc kv.1 kv.2) kvs
theorem KV.merge : ∀ {more : List (Key × V)} {rs : List (Key × Value)} {kvs : List (Key × V)} {vs : List (Key × Value)}, KV more rs → KV kvs vs → KV (mergeK kvs more) (merged vs rs) := by
  intro more rs kvs vs r
  unfold KV at r
  induction r generalizing kvs vs with
  | nil => intro q; exact q
  | @cons p q ps qs h t ih =>
    intro r0
    have e : KV (putK kvs p.1 p.2) (stored vs q.1 q.2) := by
      have := r0.put p.1 h.2
      rw [← h.1]; exact this
    exact ih e
theorem length_mergeK : ∀ (more kvs : List (Key × V)), (mergeK kvs more).length ≤ kvs.length + more.length
  | [], kvs => by show kvs.length ≤ kvs.length + 0; omega
  | p :: r, kvs => by
    have h1 := length_mergeK r (putK kvs p.1 p.2)
    have h2 := length_putK kvs p.1 p.2
    show (mergeK (putK kvs p.1 p.2) r).length ≤ _
    rw [List.length_cons]; omega
theorem carries_of {P : Program} {w : World} : ∀ {kvs : List (Key × V)} {ws : List (Value × Value)}, VV (kvs.map fun kv => (kV kv.1, kv.2)) ws → ∃ rs, Carries (mixKind P w) ws rs ∧ KV kvs rs
  | [], _, r => by rw [List.map_nil] at r; cases r; exact ⟨[], True.intro, .nil⟩
  | p :: kvs, _, r => by
    rw [List.map_cons] at r
    cases r with
    | @cons a b as bs h t =>
      obtain ⟨rs, c, q⟩ := carries_of (P := P) (w := w) t
      obtain ⟨b1, b2⟩ := b
      exact ⟨(p.1, b2) :: rs, ⟨kV_is h.1, rfl, c⟩, .cons ⟨rfl, h.2⟩ q⟩
noncomputable def tDisp (trs : List (TE × TE)) : TE := fun σ H Q => ∀ p, H p = none → tPairs trs σ (upd H p (.dK [])) fun ps H2 => H2 p = some (.dK []) ∧ ∃ kvs : List (Key × V), ps = kvs.map (fun kv => (kV kv.1, kv.2)) ∧ kvs.length ≤ 15 ∧ Q (.ref p) (upd H2 p (.dK (mergeK [] kvs)))
theorem pe_disp {X : Cx} {pos : Pos} {keys : List (Option Expr)} {values : List Expr} {trs : List (TE × TE)} (h : PPs X pos keys values trs) (hall : keys.all (·.isSome) = true) (hl : keys.length = values.length) (h0 : keys ≠ [])
    (h15 : keys.length ≤ 15) : PE X (.Dict keys values pos) (tDisp trs) := by
  intro pins s σ H Q I q
  have hn := I.hok.fresh (Nat.le_refl s.heap.objs.size)
  have I1 := I.laid (a := s.heap.objs.size) (o := .dK []) (h' := s.heap.push { cls := .type "dict", data := .dict #[] }) (t' := s.toks) (fun _ _ q => Heap.get?_push_of_some _ q) (Nat.le_refl _) (dk_empty s.heap I.big)
  refine wpAny_Dict_walk (knd := mixKind X.prog X.w) hall hl h0 h15 (thn (h pins _ σ _ _ I1 (q _ hn)) fun ws s2 zq76 => ?_)
  obtain ⟨ps, H2, I2, rel, e, kvs, ep, lk, q2⟩ := zq76
  subst ep
  obtain ⟨rs, c, rk⟩ := carries_of (P := X.prog) (w := X.w) rel
  obtain ⟨z, hd, vs0, r0, dd⟩ := dk_of I2.hok e
  cases r0
  refine ⟨rs, c, dd, fun h' dd' hs => ⟨.ref s.heap.objs.size, _, ?_, rfl, q2⟩⟩
  have hz : (mergeK [] kvs).length ≤ sizeLine := by
    have h1 := length_mergeK kvs []
    rw [List.length_nil] at h1
    rw [sizeLine_eq]; omega
  have he : ∃ q, h'.get? s.heap.objs.size = some q := let ⟨q, _, _, hq, _⟩ := dd'; ⟨q, hq⟩
  exact d_write I2 (by rw [e]; exact True.intro) hs he (dk_new hz hd (rk.merge .nil) dd')


structure M1 (X : Cx) (o : Expr) (m : Str) (apos : Pos) (e : Expr) (cpos : Pos) : Prop where
  base : attributeBase o m X.env (eval o X.env) = eval o X.env
  few : ((backTo cpos (starEach [e] X.env)).all (fun x => !x.1) && (backToKw cpos (keywordEach [] X.env)).all (fun x => x.1.isSome)
    && decide (([e] : List Expr).length + ([] : List Keyword).length + (if ([] : List Keyword).isEmpty then 0 else 1) < 30)) = true
  line : (apos.endLine == cpos.line) = true
  trees : backTo cpos (starEach [e] X.env) = [(false, eval e X.env)]

noncomputable def IsD (H : Hp) (a : Addr) : Prop := (∃ kvs, Rd H a (.dK kvs)) ∨ ∃ kvs, Rd H a (.dT kvs)
theorem isD_at {X : Cx} {pins : List (Addr × Obj)} {σ : St} {H : Hp} {s : Shared} {a : Addr} (I : Inv X pins σ H s) (d : IsD H a) :
    s.TypeIs (.ref a) "dict" ∧ (∀ b, Value.ref a = .ref b → ∃ ob, s.heap.get? b = some ob ∧ ob.dict = none) ∧ (a == sysModules) = false := by
  rcases d with ⟨kvs, e⟩ | ⟨kvs, e⟩
  · obtain ⟨_, hd, vs, _, dd⟩ := dk_rd I.hok e
    refine ⟨dd.typeIs, fun b q => ?_, hd⟩
    cases q
    obtain ⟨ob, _, _, h1, h2, _⟩ := dd
    exact ⟨ob, h1, h2.2.1⟩
  · obtain ⟨_, hd, xs, _, dd⟩ := dt_rd I.hok e
    refine ⟨dd.typeIs, fun b q => ?_, hd⟩
    cases q
    obtain ⟨ob, _, _, h1, h2, _⟩ := dd
    exact ⟨ob, h1, h2.2.1⟩

section
variable {X : Cx} {pins : List (Addr × Obj)} {σ : St} {H : Hp} {s : Shared} {a : Addr} {y d : V} {u r : Value} {o : Option V} {A : Around} {E : Value → Shared → Prop}
theorem d_get1 {Q : Value → Shared → Prop} (hu : A.units + 1 < cLine) (I : Inv X pins σ H s) (g : DGet H a y o) (ry : RelV y u) (h : ∀ w' s', Inv X pins σ H s' → RelV (o.getD .non) w' → Q w' s') :
    wpAny (model X.prog X.w) A (call (.builtin "dict.get") [.ref a, u]) Q E s := by
  rcases g with ⟨kvs, k, e, ey, l⟩ | ⟨kvs, k, b, e, ey, eb, l⟩
  · subst ey
    obtain ⟨z, hd, vs, rel, dd⟩ := dk_rd I.hok e
    refine call_meetsIn PySem.F.slot_dict_get dd.typeIs PySem.F.entry_dict_get (PySem.F.args_dict_get_2 _ _) (meets_dict_get (mixKind X.prog X.w) a (kV_is ry) hd) ⟨_, dd.mapOf, h _ _ (I.tok _) ?_⟩
    rw [l]
    exact (rel.val k).getD rfl
  · subst ey
    cases (show u = Value.ref b from ry)
    obtain ⟨z, hd, xs, rel, dd⟩ := dt_rd I.hok e
    refine call_meetsIn PySem.F.slot_dict_get dd.typeIs PySem.F.entry_dict_get (PySem.F.args_dict_get_2 _ _) (meetsH_dict_get (tupleKind (mixKind X.prog X.w)) a b hd) ⟨tupleKind_room_in1 hu, k, xs, key_of I.hok eb, dd, h _ _ (I.tok _) ?_⟩
    rw [l]
    exact (rel.val k).getD rfl
end

noncomputable def tDGet1 (td ty : TE) : TE := fun σ H Q => td σ H fun x H1 => ∃ a, x = .ref a ∧ IsD H1 a ∧ ty σ H1 fun y H2 => ∃ o, DGet H2 a y o ∧ Q (o.getD .non) H2
section
variable {X : Cx} {o e f : Expr} {apos cpos : Pos} {td ty tx : TE}
theorem pe_dget1 (hu : X.A.units + 1 < cLine) (ho : PE X o td) (he : PE X e ty) (m : M1 X o "get" apos e cpos) : PE X (.Call (.Attribute o "get" apos) [e] [] cpos) (tDGet1 td ty) := by
  intro pins s σ H Q I h
  refine wpAny_Call_method m.base m.few m.line PySem.F.plainAttrs_dict PySem.F.slot_dict_get PySem.F.type_dict_get (thn (ho pins s σ H _ I h) fun u s1 zq77 => ?_)
  obtain ⟨x, H1, I1, rx, a, ex, d, q1⟩ := zq77
  subst ex
  obtain rfl : u = Value.ref a := rx
  obtain ⟨t1, t2, _⟩ := isD_at I1 d
  refine ⟨t1, t2, ?_⟩
  rw [m.trees]
  refine Calls.callWith_builtin rfl (Calls.evalArgs_plain (Calls.spliced_cons (thn (he pins s1 σ H1 _ I1 q1) fun iv s2 ⟨y, H2, I2, ry, ov, g, q2⟩ => Calls.spliced_nil ?_)))
  exact d_get1 hu I2 g ry fun w' s3 I3 rw' => ⟨_, H2, I3, rw', q2⟩
end

section
variable {X : Cx} {pins : List (Addr × Obj)} {σ : St} {H : Hp} {s : Shared} {a : Addr} {kvs : List (Key × V)} {A : Around} {E : Value → Shared → Prop}
end


section
variable {X : Cx} {pins : List (Addr × Obj)} {σ : St} {H : Hp} {s : Shared} {a : Addr} {y : V} {u : Value} {A : Around} {E : Value → Shared → Prop}
end
end L2

namespace Att
open PySem PySem.W PySem.Calls PyProof.Rows

theorem ints_of_wellAll {P : Params} {h : Heap} : ∀ (ns : List Int) (vs : List Value), WellAll P h vs (ns.map WData.int) → IntsAre vs ns := by
  intro ns
  induction ns with
  | nil =>
    intro vs w
    rw [List.map_nil] at w
    cases w
    exact .nil
  | cons n ns ih =>
    intro vs w
    rw [List.map_cons] at w
    cases w with
    | cons a b =>
      cases a
      exact .cons _ _ (ih _ b)

theorem script_of {l : OpenLaw} {n : Nat} (hn : l.most = some n) {P : Params} {h : Heap} {args : List WData} {vals : List Value}
    (hpre : l.row.toRowW.claim.pre args = true) (hwl : WellAll P h vals args) :
    ∃ a vs ns, vals = [Value.ref a] ∧ args = [WData.list (ns.map WData.int)] ∧ h.get? a = some { cls := .type "list", data := .seq vs.toArray } ∧ IntsAre vs ns ∧ ns.length ≤ n := by
  have hsh : WShape.hasAll [] args [.list .int] = true := (pre_splitW hpre).1
  have hc : l.pre.holds [] { args := args } = true := (pre_splitW hpre).2
  obtain ⟨d, r, rfl, h1, h2⟩ := hasAllW_cons hsh
  obtain rfl := hasAllW_nil h2
  obtain ⟨xs, rfl, h3⟩ := hasW_list h1
  obtain ⟨ns, rfl⟩ := items_int h3
  have hlen : ns.length ≤ n := by
    unfold OpenLaw.pre at hc
    have h4 : (WTm.not (.lt (.lit (.int (n : Int))) (.len (.arg 0)))).holds [] { args := [.list (ns.map .int)] } = true := by
      have h4 := (holds_andW hc).1
      rw [hn] at h4
      exact h4
    have h5 := condW_of h4 (w_not (w_lt w_lit (w_len_list (w_arg rfl))))
    rw [List.length_map] at h5
    refine Nat.le_of_not_lt fun q => ?_
    have q' : (n : Int) < ((ns.length : Nat) : Int) := by omega
    first
      | (rw [decide_eq_true q'] at h5; exact absurd h5 (by decide))
      | (simp at h5; omega)
  cases hwl with
  | cons w1 w2 =>
    cases w2
    cases w1 with
    | list ho hall => exact ⟨_, _, ns, rfl, rfl, ho, ints_of_wellAll ns _ hall, hlen⟩

theorem post_true (l : OpenLaw) (args : List WData) : l.row.toRowW.claim.post args (.bool true) args = true :=
  postW_of (r := l.row.toRowW) (X := (true == true))
    (show WShape.has [] (.bool true) .bool = true by first | rfl | decide | simp [WShape.has, WShape.arms, WShape.armsAll])
    (show (WTm.eq .res (.lit (.bool true))).value [] { args := args, res := some (.bool true), after := args } = some (.bool (true == true)) from w_eq_bool (w_res rfl) w_lit) rfl


theorem attach_call {l : OpenLaw} {n : Nat} {q : Program} {loose : List Str} {XP : (Str → Option Value) → Heap → Prop} {YP : World → Heap → Prop} {d : DefRec}
    (hn : l.most = some n) (hdf : d.params.defaults = [])
    (call : ∀ (w : World) (s₀ s₁ : Shared) (mg mb : Str → Option Value) (fa : Addr) (o : Obj) (pm cd doc : Value) (a : Addr) (vs : List Value) (ns : List Int),
      Ground q loose [] XP w s₀ mg mb s₁.heap → YP w s₁.heap →
      s₁.heap.get? fa = some o → o.data = .func (docDef d.name d.params d.body d.scope pm cd doc) → s₁.heap.CodeRec cd d.name → mg d.name = some (.ref fa) →
      s₁.heap.get? a = some { cls := .type "list", data := .seq vs.toArray } → IntsAre vs ns → ns.length ≤ n → s₁.gens = #[] →
      codeAny (model l.prog w) callerA (.call (.ref fa) ⟨[.ref a], []⟩) (fun r s' => r = .ok (.ret (.bool true)) ∧ OldK s₁.heap s'.heap ∧ s'.os = s₁.os ∧ AllBare s'.gens) s₁) :
    WalkO q loose XP YP l.row.toRowW d [] (fun f vs => PySem.call f vs) := by
  intro w s₀ s₁ mg mb G Y fa o pm cd doc dV kV ho hd hcd hD hmg hg args vals as hpre hlay hrd hwl hlo
  obtain rfl : dV = .none := Dflts.none hD hdf
  obtain rfl : kV = .none := Dflts.noKw hD
  obtain ⟨a, vs, ns, rfl, rfl, hobj, hints, hlen⟩ := script_of hn hpre hwl
  refine enter_call (codeAny_mono (call w s₀ s₁ mg mb fa o pm cd doc a vs ns G Y ho (fd_plain hd) hcd hmg hobj hints hlen hg) fun r s' hq => ?_)
  obtain ⟨rfl, h2, h3, h4⟩ := hq
  exact ⟨.inl ⟨.bool true, .bool true, [], rfl, fun _ => rfl, .bool true, post_true l _, fun _ => ⟨List.Pairwise.nil, fun _ hm => (nomatch hm)⟩⟩, h2, h3, h4⟩


section
variable {prog : Program} {w : World} {A : Around} {E : Value → Shared → Prop} {s : Shared} {K : Frag}






end
end Att

namespace L2
open PySem PySem.Spec PyProof.Rows

theorem vals_ints : ∀ {vs : List Value} {ns : List Int}, IntsAre vs ns → Vals (ns.map V.int) vs
  | _, _, .nil => .nil
  | _, _, .cons n t h => .cons ⟨t, rfl⟩ (vals_ints h)

noncomputable def Only (H : Hp) : Prop := ∀ b, H b = none ∨ ∃ o xs, H b = some (.frz o (.lst xs))

theorem law_call {P : Program} {w : World} {K : PySem.W.Frag} {mg mb : Str → Option Value} {CX : CXT} {k : Nat} {fa a : Addr} {fd : FuncData} {x : Str} {sp : Sp} {s₁ : Shared} {vs : List Value} {ns : List Int}
    (KX : K.In s₁.heap) (hns : s₁.heap.Ns mainGlobals mg) (hb : s₁.heap.Ns builtinsNs mb) (hbb : ∀ x : Str, x ≠ "__name__" → mb x = bootBuiltins x) (hlim : s₁.heap.NoLimit) (hg : s₁.gens = #[])
    (ha : s₁.heap.get? a = some { cls := .type "list", data := .seq vs.toArray }) (hi : IntsAre vs ns) (hl : ns.length ≤ sizeLine) (hr : Room k callerA)
    (F : ∀ base : Heap, K.In base → base.Ns mainGlobals mg → FnOk P w K mg base CX k fa fd [x] sp) (hbind : ∀ (s : Shared) (u : Value), BindsTo s fd ⟨[u], []⟩ [(x, u)])
    (hsp : ∀ H : Hp, Only H → SqL K H a (ns.map V.int) → sp [.ref a] H (fun v _ => v = .bl true) fun _ _ _ => False)
    (hCX : ∀ H e s', CX [] H s₁ (fun _ _ _ => False) e s' → False) :
    codeAny (model P w) callerA (.call (.ref fa) ⟨[.ref a], []⟩) (fun r s' => r = .ok (.ret (.bool true)) ∧ OldK s₁.heap s'.heap ∧ s'.os = s₁.os ∧ AllBare s'.gens) s₁ := by
  have rv := vals_ints hi
  have lenV := hi.length
  -- from an abstract heap in which nothing but the script may be tracked
  have core : ∀ H : Hp, Only H → SqL K H a (ns.map V.int) → HOk P w H s₁.heap → (∀ b, H b ≠ none → b = a) → (H a ≠ none → K.lookup a = none) →
      codeAny (model P w) callerA (.call (.ref fa) ⟨[.ref a], []⟩) (fun r s' => r = .ok (.ret (.bool true)) ∧ OldK s₁.heap s'.heap ∧ s'.os = s₁.os ∧ AllBare s'.gens) s₁ := by
    intro H hO hS hok hA hK
    have base_of : ∀ {b : Addr} {o : Obj}, s₁.heap.get? b = some o → H b = none → (hidT s₁.heap H).get? b = some o := fun e n => hidT_get e n
    have noA : ∀ {b : Addr} {o : Obj} {es : Array DictEntry} {ep : Nat}, s₁.heap.get? b = some o → o.data = .dict es ep → H b = none := fun {b o es ep} e d => by
      cases q : H b with
      | none => rfl
      | some u =>
        have e' : b = a := hA b (by rw [q]; simp)
        subst e'
        rw [ha] at e; cases e
        have d' : Data.seq vs.toArray _ = Data.dict es ep := d
        cases d'
    have nsK : ∀ {b : Addr} {m : Str → Option Value}, s₁.heap.Ns b m → (hidT s₁.heap H).Ns b m := fun {b m} ⟨o, es, ep, e, d, r⟩ => ⟨o, es, ep, base_of e (noA e d), d, r⟩
    have hKb : K.In (hidT s₁.heap H) := fun b o e => base_of (KX b o e) (by
      cases q : H b with
      | none => rfl
      | some u =>
        have e' : b = a := hA b (by rw [q]; simp)
        subst e'
        rw [hK (by rw [q]; simp)] at e; cases e)
    have hM : Mod K mg (hidT s₁.heap H) := ⟨hKb, nsK hns, ⟨mb, nsK hb, hbb⟩, let ⟨mc, h1, h2⟩ := hlim; ⟨mc, nsK h1, h2⟩⟩
    have e0 : Env0 P w K mg (hidT s₁.heap H) callerA [] s₁ H := ⟨rfl, hM, fun b o e => of_hidT e, Nat.le_of_eq (hidT_size _ _), trivial, fun b hb => absurd (show b ∈ ([] : List Addr) from hb) (by simp), hok, .of_eq hg⟩
    refine codeAny_mono ((F _ hKb (nsK hns)).run callerA [] s₁ H ⟨[.ref a], []⟩ [.ref a] [.ref a] _ _ hr e0 (hbind s₁ (.ref a)) (.cons rfl .nil) (hsp H hO hS)) fun r s' h => ?_
    cases r with
    | error e => exact (hCX H e s' h).elim
    | ok fl =>
      cases fl with
      | next => exact False.elim h
      | brk => exact False.elim h
      | cont => exact False.elim h
      | ret u =>
        obtain ⟨v, H', os, bare, un, hok', r', q⟩ := h
        have q' : v = .bl true := q
        subst q'
        obtain rfl : u = Value.bool true := r'
        refine ⟨rfl, OldK.of_keep fun b o e => ?_, os, bare⟩
        cases q : H b with
        | none => exact un.keep b o e q (by intro z; exact absurd (show b ∈ ([] : List Addr) from z) (by simp)) (by simp)
        | some u =>
          rcases hO b with z | ⟨ob, xs, z⟩
          · rw [q] at z; cases z
          · have z2 := un.frzs b ob _ z
            obtain ⟨e1, _⟩ := hok b _ z
            obtain ⟨e2, _⟩ := hok' b _ z2
            rw [e] at e1; cases e1
            exact e2
  cases hk : K.lookup a with
  | some o =>
    -- the script is one of the module's own objects
    have e := KX a o hk
    rw [ha] at e
    cases e
    refine core (fun _ => none) (fun _ => .inl rfl) (.inr ⟨_, vs.toArray, _, hk, rfl, rfl, rfl, by rw [List.size_toArray, lenV]; exact hl, by simpa using rv⟩) (fun b u z => by have z' : (none : Option HO) = some u := z; cases z') (fun b z => absurd rfl z) fun z => absurd rfl z
  | none =>
    refine core (fun b => if b = a then some (.frz { cls := .type "list", data := .seq vs.toArray } (.lst (ns.map V.int))) else none) (fun b => ?_) (.inl (.inr ⟨{ cls := .type "list", data := .seq vs.toArray }, if_pos rfl⟩)) (fun b u z => ?_) (fun b z => ?_) fun _ => hk
    · by_cases hb : b = a
      · exact .inr ⟨_, _, if_pos hb⟩
      · exact .inl (if_neg hb)
    · by_cases hb : b = a
      · have z' := (if_pos hb).symm.trans z
        cases z'
        subst hb
        exact ⟨ha, by rw [List.length_map]; exact hl, vs, _, rv, ha⟩
      · have z' := (if_neg hb).symm.trans z
        cases z'
    · by_cases hb : b = a
      · exact hb
      · exact absurd (if_neg hb) z
end L2

namespace L2
open PySem PySem.Spec PyProof.Rows


theorem walk_of {l : PySem.W.OpenLaw} {n k : Nat} {q : Program} {loose : List Str} {XP : (Str → Option Value) → Heap → Prop} {YP : World → Heap → Prop} {d : DefRec} {K : Params → PySem.W.Frag} {CX : World → CXT} {sp : World → Sp} {x : Str}
    (hn : l.most = some n) (hn2 : n ≤ sizeLine) (hdf : d.params.defaults = []) (hr : Room k callerA)
    (hY : ∀ (w : World) (h : Heap), YP w h → (K w.params).In h)
    (F : ∀ (w : World) (mg : Str → Option Value) (fa : Addr) (h : Heap), (K w.params).In h → h.Ns mainGlobals mg → mg d.name = some (.ref fa) →
      ∃ fd : FuncData, (∀ (s : Shared) (u : Value), BindsTo s fd ⟨[u], []⟩ [(x, u)]) ∧
        ∀ base : Heap, (K w.params).In base → base.Ns mainGlobals mg → FnOk l.prog w (K w.params) mg base (CX w) k fa fd [x] (sp w))
    (hsp : ∀ (w : World) (H : Hp) (a : Addr) (ns : List Int), ns.length ≤ n → Only H → SqL (K w.params) H a (ns.map V.int) → sp w [.ref a] H (fun v _ => v = .bl true) fun _ _ _ => False)
    (hCX : ∀ (w : World) (H : Hp) (s : Shared) (e : Value) (s' : Shared), CX w [] H s (fun _ _ _ => False) e s' → False) :
    PySem.W.WalkO q loose XP YP l.row.toRowW d [] (fun f vs => PySem.call f vs) := by
  refine Att.attach_call hn hdf fun w s₀ s₁ mg mb fa o pm cd doc a vs ns G Y ho hd hcd hmg hobj hints hlen hg => ?_
  have KX := hY w _ Y
  obtain ⟨fd, hb, hF⟩ := F w mg fa _ KX G.T.g hmg
  exact law_call KX G.T.g G.T.b G.T.builtins G.T.nolimit hg hobj hints (Nat.le_trans hlen hn2) hr hF hb (fun H hO hS => hsp w H a ns hlen hO hS) fun H e s' => hCX w H s₁ e s'
end L2

/- THE LAST THEOREM (shape; LID, My.* are yours):
   My.Adr: a structure of the addresses that your layer names (classes, functions); My.Txt K t: a structure (Prop) of the equations over K;
   My.txt_mk : {K} {implicit addresses ..} (e1 : nsIn K mainGlobals "law" = some (some (.ref f))) (e2 : K.lookup f = some ⟨oc, od, .func (fnOf "law" "law" params body scope dV kV doc pm an cdv ct), sl⟩) (e3 : codeIn K cdv "law" = true) .. : ∃ t, My.Txt K t

set_option maxRecDepth 100000 in
set_option maxHeartbeats 0 in
theorem PySem.Challenge.cw_LID_holds : PySem.Challenge.rw_LID.Holds := by
  w_on; o_law; k_head; (case hw => w_witness2)
  k_fill
  refine L2.walk_of (l := PySem.Challenge.rw_LID) (n := 63) (k := 40) (x := "script") (CX := fun w => ..) (sp := fun _ => My.sp_law) rfl (by decide) rfl ⟨rfl, by decide, by decide⟩ (fun w h Y => PySem.W.kIn_of Y) ?F ?S ?C
  case F =>
    intro w mg fa h KX G hmg
    have T : ∃ t, My.Txt (L2.KOf KX) t := by
      dsimp only [L2.KOf]                          -- K must stand as «<heap const> w.params» for k_is
      refine' My.txt_mk ?e1 ?e2 ?e3 ..
      (case e1 => PySem.W.k_is)                    -- in the order: a name -> its address -> its object -> its parts
      (case e2 => PySem.W.k_is)
      ..
    obtain ⟨t, T⟩ := T
    have e0 := hmg.symm.trans (PySem.W.mg_of KX G T.law)
    cases e0                                       -- fa is the law's own address
    exact ⟨_, fun s u => .of_eq rfl, fun base kb nb => My.law_fn T kb nb⟩     -- if «.of_eq rfl» comes too early: refine' ⟨_, ?b, fun base kb nb => My.law_fn T kb nb⟩; exact fun s u => .of_eq rfl
  case S => exact fun w H a ns hl hO hS => ..
  case C => exact ..
(the tactic k_is has no namespace: write k_is) -/

namespace L2
open PySem PySem.Spec PyProof.Rows

noncomputable def defArgs (s : Stmt) : Arguments := match s with
  | .FunctionDef _ a _ _ _ _ _ _ _ _ => a
  | _ => { posonlyargs := [], args := [], vararg := none, kwonlyargs := [], kw_defaults := [], kwarg := none, defaults := [] }
noncomputable def defBody (s : Stmt) : List Stmt := match s with
  | .FunctionDef _ _ b _ _ _ _ _ _ _ => b
  | _ => []
noncomputable def defScope (s : Stmt) : Scope := match s with
  | .FunctionDef _ _ _ _ _ _ sc _ _ _ => sc
  | _ => { kind := .function, names := [], isGenerator := false, isCoroutine := false }

noncomputable abbrev CX0 : CXT := fun _ _ _ _ _ _ => False
noncomputable abbrev E0 : XK := fun _ _ _ => False
theorem pass0 {X : Cx} : Passes CX0 X E0 := fun _ _ _ _ _ _ _ h => h.elim

structure Fun (K : PySem.W.Frag) (x qual : Str) (st : Stmt) (f : Addr) (fd : FuncData) : Prop where
  ex : ∃ (oc : Value) (od : Option Addr) (kV doc pm : Value) (an : Option Addr) (cdv ct : Value) (osl : Array (Option Value)),
    fd = PySem.W.fnOf x qual (defArgs st) (defBody st) (defScope st) .none kV doc pm an cdv ct ∧ K.lookup f = some ⟨oc, od, .func fd, osl⟩ ∧ PySem.W.codeIn K cdv qual = true
  kp : PySem.W.keepIn K (.ref f) = true
section
variable {P : Program} {w : World} {K : PySem.W.Frag} {mg : Str → Option Value} {base : Heap}
theorem Fun.ok {x qual : Str} {st : Stmt} {f : Addr} {fd : FuncData} {N ps : List Str} {k : Nat} {sp : Sp} (F : Fun K x qual st f fd) (S : FnScope N ps (defScope st)) (len : ∀ vs H Q E, sp vs H Q E → vs.length = ps.length)
    (hbody : ∀ (cdv : Value) (A : Around) (outer : List Env) (s : Shared) (H : Hp) (vs : List V) (Q : VK) (E : XK), Room k (A.deeper (envOfC qual (defScope st) s.heap.objs.size f cdv)) → sp vs H Q E →
      ∃ t, PSs (cxOf CX0 P w K mg base N qual (defScope st) f cdv A outer s H E).nox (defBody st) t ∧ t { nx := fun _ H' => Q .non H', rt := Q } (start N vs) H) : FnOk P w K mg base CX0 (k + 1) f fd ps sp := by
  obtain ⟨oc, od, kV, doc, pm, an, cdv, ct, osl, rfl, lk, hcd⟩ := F.ex
  refine fn_of lk hcd S len fun A outer s H vs Q E hr hsp => ?_
  obtain ⟨t, h, q⟩ := hbody cdv A outer s H vs Q E hr hsp
  exact ⟨t, h.nox, q⟩
theorem Fun.binds {x qual : Str} {st : Stmt} {f : Addr} {fd : FuncData} {ps : List Str} (F : Fun K x qual st f fd)
    (h : ∀ (kV doc pm : Value) (an : Option Addr) (cdv ct : Value) (us : List Value), us.length = ps.length → bindArgs (PySem.W.fnOf x qual (defArgs st) (defBody st) (defScope st) .none kV doc pm an cdv ct) ⟨us, []⟩ = pure (ps.zip us)) : Binds K fd ps [] := by
  obtain ⟨oc, od, kV, doc, pm, an, cdv, ct, osl, rfl, lk, hcd⟩ := F.ex
  exact .all (h kV doc pm an cdv ct)
theorem fun_mk {x qual : Str} {st : Stmt} {f : Addr} {oc : Value} {od an : Option Addr} {osl : Array (Option Value)} {kV doc pm cdv ct : Value} (l : K.lookup f = some ⟨oc, od, .func (PySem.W.fnOf x qual (defArgs st) (defBody st) (defScope st) .none kV doc pm an cdv ct), osl⟩)
    (c : PySem.W.codeIn K cdv qual = true) (k : PySem.W.keepIn K (.ref f) = true) : Fun K x qual st f (PySem.W.fnOf x qual (defArgs st) (defBody st) (defScope st) .none kV doc pm an cdv ct) := ⟨⟨oc, od, kV, doc, pm, an, cdv, ct, osl, rfl, l, c⟩, k⟩
end
theorem hu_of {A : Around} {k : Nat} (hr : Room k A) : A.units + 1 < cLine := Nat.lt_of_le_of_lt (Nat.add_le_add_left (by decide : 1 ≤ 64) _) hr.units

section
variable {X : Cx}
theorem pv (i : Nat) {x : Str} {pos : Pos} (hN : X.N[i]? = some x := by rfl) (hv : Vis X.env.scope x := by first | exact Or.inl rfl | exact Or.inr (Or.inl rfl) | exact Or.inr (Or.inr rfl)) (hd : (x == ("__debug__" : Str)) = false := by decide)
    (hcd : (x == ("__classdict__" : Str)) = false := by decide) : PE X (.Name x pos) (tVar i) := pe_var hN hv hd hcd
end

theorem iteF {A B : Prop} (h : B) : if false = true then A else B := by
  rw [if_neg Bool.false_ne_true]
  exact h
theorem ite2 {c A B : Prop} [Decidable c] (h1 : c → A) (h2 : ¬ c → B) : if c then A else B := by
  by_cases h : c
  · rw [if_pos h]
    exact h1 h
  · rw [if_neg h]
    exact h2 h
theorem iteNS {c A B : Prop} [Decidable c] (hc : c) (h : B) : if (!decide c) = true then A else B := by
  rw [decide_eq_true hc]
  exact iteF h

noncomputable def Same (H H' : Hp) : Prop := ∀ b o, H b = some o → H' b = some o
theorem Same.refl (H : Hp) : Same H H := fun _ _ h => h
theorem Same.trans {H H1 H2 : Hp} (a : Same H H1) (b : Same H1 H2) : Same H H2 := fun c o h => b c o (a c o h)
theorem Same.seq {K : PySem.W.Frag} {H H' : Hp} {a : Addr} {xs : List V} (e : Same H H') (h : SqL K H a xs) : SqL K H' a xs := by
  rcases h with (h | ⟨o, h⟩) | h
  · exact .inl (.inl (e _ _ h))
  · exact .inl (.inr ⟨o, e _ _ h⟩)
  · exact .inr h

section
variable {κ : Type} [DecidableEq κ]
end
end L2
set_option Elab.async false
set_option linter.all false
set_option maxRecDepth 100000
namespace L2
open PySem PySem.Spec PyProof.Rows

noncomputable def clOf (cells : List (Str × Addr)) : List (Str × NameKind) → List (Str × Addr) → List (Str × Addr)
  | [], acc => acc
  | (x, k) :: r, acc => if k == NameKind.free then clOf cells r ((x, (cells.lookup x).getD 0) :: acc) else clOf cells r acc
theorem clOf_mem {cells : List (Str × Addr)} {p : Str × Addr} : ∀ {names : List (Str × NameKind)} {acc : List (Str × Addr)}, p ∈ clOf cells names acc → p ∈ acc ∨ ((p.1, NameKind.free) ∈ names ∧ p.2 = (cells.lookup p.1).getD 0)
  | [], _, h => .inl h
  | (x, k) :: r, acc, h => by
    unfold clOf at h
    by_cases hk : (k == NameKind.free) = true
    · rw [if_pos hk] at h
      have ek : k = NameKind.free := by simpa using hk
      subst ek
      rcases clOf_mem h with h | ⟨h, e⟩
      · rcases List.mem_cons.mp h with h | h
        · subst h
          exact .inr ⟨List.mem_cons_self, rfl⟩
        · exact .inl h
      · exact .inr ⟨List.mem_cons_of_mem _ h, e⟩
    · rw [if_neg hk] at h
      rcases clOf_mem h with h | ⟨h, e⟩
      · exact .inl h
      · exact .inr ⟨List.mem_cons_of_mem _ h, e⟩
theorem clOf_acc {cells : List (Str × Addr)} {p : Str × Addr} : ∀ {names : List (Str × NameKind)} {acc : List (Str × Addr)}, p ∈ acc → p ∈ clOf cells names acc
  | [], _, h => h
  | (x, k) :: r, acc, h => by
    unfold clOf
    split
    · exact clOf_acc (List.mem_cons_of_mem _ h)
    · exact clOf_acc h
theorem clOf_has {cells : List (Str × Addr)} {x : Str} : ∀ {names : List (Str × NameKind)} {acc : List (Str × Addr)}, (x, NameKind.free) ∈ names → (x, (cells.lookup x).getD 0) ∈ clOf cells names acc
  | [], _, h => by simp at h
  | (y, k) :: r, acc, h => by
    unfold clOf
    rcases List.mem_cons.mp h with h | h
    · have e1 : x = y := congrArg Prod.fst h
      have e2 : NameKind.free = k := congrArg Prod.snd h
      subst e1 e2
      rw [if_pos (by simp)]
      exact clOf_acc List.mem_cons_self
    · split
      · exact clOf_has h
      · exact clOf_has h
theorem lookup_of_mem {x : Str} {c : Addr} : ∀ {l : List (Str × Addr)}, (x, c) ∈ l → ∃ d, l.lookup x = some d
  | [], h => by simp at h
  | (y, d) :: r, h => by
    rw [List.lookup_cons]
    by_cases e : (x == y) = true
    · rw [e]; exact ⟨d, rfl⟩
    · have e' : (x == y) = false := by simpa using e
      rw [e']
      rcases List.mem_cons.mp h with h | h
      · have : x = y := congrArg Prod.fst h
        exact absurd (by simpa using this) e
      · exact lookup_of_mem h
theorem closureFor_is {env : Env} {scope : Scope} (h : ∀ y ∈ scope.names, y.2 = NameKind.free → ∃ c, env.cells.lookup y.1 = some c) : closureFor scope env = pure (clOf env.cells scope.names []) := by
  have all : ∀ (names : List (Str × NameKind)) (acc : List (Str × Addr)), (∀ y ∈ names, y.2 = NameKind.free → ∃ c, env.cells.lookup y.1 = some c) →
      (forIn names acc (fun (p : Str × NameKind) (r : List (Str × Addr)) => (if (p.2 == NameKind.free) = true then (do let a ← cellOf env p.1; pure (ForInStep.yield ((p.1, a) :: r))) else pure (ForInStep.yield r) : Sem (ForInStep (List (Str × Addr)))))) = (pure (clOf env.cells names acc) : Sem (List (Str × Addr))) := by
    intro names
    induction names with
    | nil => intro acc _; rfl
    | cons p r ih =>
      intro acc hh
      obtain ⟨x, k⟩ := p
      have hr : ∀ y ∈ r, y.2 = NameKind.free → ∃ c, env.cells.lookup y.1 = some c := fun y hy => hh y (List.mem_cons_of_mem _ hy)
      rw [List.forIn_cons]
      unfold clOf
      by_cases hk : (k == NameKind.free) = true
      · obtain ⟨c, hc⟩ := hh (x, k) List.mem_cons_self (by simpa using hk)
        have hc : env.cells.lookup x = some c := hc
        have ec : cellOf env x = pure c := by
          unfold cellOf
          rw [hc]
        simp only [hk, if_true, ec, pure_bind, hc, Option.getD_some]
        exact ih _ hr
      · simp only [hk, if_false, pure_bind]
        exact ih _ hr
  have e := all scope.names [] h
  unfold closureFor
  simp only [bind_pure]
  exact e

noncomputable def blkOk (scope sc : Scope) (NB own : List Str) (cap : List Nat) (N : List Str) : Bool :=
  (scope.kind == .function) && (sc.kind == .function) &&
  (scope.names.all fun y => match y.2 with
    | .cell => false
    | .free => sc.names.lookup y.1 == some NameKind.cell
    | .local => scope.names.lookup y.1 == some NameKind.local
    | _ => true) &&
  (own.all fun x => scope.names.lookup x == some NameKind.local && scope.names.all fun y => !(y.1 == x) || y.2 == NameKind.local) &&
  (NB == own ++ cap.map fun i => N.getD i "") && (cap.all fun i => decide (i < N.length) && scope.names.lookup (N.getD i "") == some NameKind.free)

structure Blk (X : Cx) (scope : Scope) (NB own : List Str) (cap : List Nat) : Prop where
  kind : scope.kind = .function
  outk : X.env.scope.kind = .function
  nocell : ∀ y ∈ scope.names, y.2 ≠ .cell
  free : ∀ y ∈ scope.names, y.2 = .free → X.env.kindOf y.1 = some .cell
  names : ∀ y ∈ scope.names, y.2 = .local → scope.names.lookup y.1 = some .local
  owns : ∀ x ∈ own, ∀ y ∈ scope.names, y.1 = x → y.2 = .local
  nb : NB = own ++ cap.map fun i => X.N.getD i ""
  caps : ∀ i ∈ cap, i < X.N.length ∧ scope.names.lookup (X.N.getD i "") = some .free
theorem blk_of {X : Cx} {scope sc : Scope} {NB own : List Str} {cap : List Nat} (hs : X.env.scope = sc) (h : blkOk scope sc NB own cap X.N = true) : Blk X scope NB own cap := by
  unfold blkOk at h
  simp only [Bool.and_eq_true] at h
  obtain ⟨⟨⟨⟨⟨h1, h2⟩, h3⟩, h4⟩, h5⟩, h6⟩ := h
  rw [List.all_eq_true] at h3 h4 h6
  subst hs
  refine ⟨by simpa using h1, by simpa using h2, fun y hy e => ?_, fun y hy e => ?_, fun y hy e => ?_, fun x hx y hy e => ?_, by simpa using h5, fun i hi => ?_⟩
  · have := h3 y hy
    rw [e] at this
    exact absurd this (by simp)
  · have := h3 y hy
    rw [e] at this
    show X.env.scope.names.lookup y.1 = some .cell
    simpa using this
  · have := h3 y hy
    rw [e] at this
    simpa using this
  · have := h4 x hx
    simp only [Bool.and_eq_true, List.all_eq_true] at this
    have q := this.2 y hy
    subst e
    simpa using q
  · have := h6 i hi
    simp only [Bool.and_eq_true] at this
    exact ⟨of_decide_eq_true this.1, by simpa using this.2⟩

noncomputable def cxB (X : Cx) (NB own : List Str) (scope : Scope) (C : Addr) (fp : List Addr) (s₀ : Shared) (H₀ : Hp) : Cx where
  prog := X.prog
  w := X.w
  K := X.K
  mg := X.mg
  base := X.base
  A := X.A
  N := NB
  s₀ := s₀
  H₀ := H₀
  env := compEnvC scope (clOf X.env.cells scope.names []) C X.env
  outer := X.stack
  stack := X.stack
  ex := fp
  fn := fun x => own.contains x
  calm := X.calm
  pn := []
  xe := fun _ _ => False

theorem relabel_free {env : Env} {x : Str} {k : NameKind} (hk : k = .cell ∨ k = .free) : ∀ {names : List (Str × NameKind)}, (∀ y ∈ names, y.2 ≠ .cell) →
    (names.map fun (n, k) => if (k == NameKind.free && env.scope.kind == .function && env.kindOf n == some .cell) then (n, NameKind.cell) else (n, k)).lookup x = some k → (x, NameKind.free) ∈ names
  | [], _, h => by simp at h
  | (n, q) :: r, hn, h => by
    have ih := @relabel_free env x k hk r fun y hy => hn y (List.mem_cons_of_mem _ hy)
    rw [List.map_cons, List.lookup_cons] at h
    have key : (if (q == NameKind.free && env.scope.kind == .function && env.kindOf n == some .cell) = true then (n, NameKind.cell) else (n, q)).1 = n := by split <;> rfl
    by_cases e : (x == n) = true
    · have en : x = n := by simpa using e
      subst en
      by_cases hq : q = .free
      · subst hq; exact List.mem_cons_self
      · have hqf : (q == NameKind.free) = false := by simpa using hq
        simp only [hqf, Bool.false_and, Bool.false_eq_true, if_false, beq_self_eq_true] at h
        have h' : q = k := Option.some.inj h
        rcases hk with z | z
        · exact absurd (h'.trans z) (hn (x, q) List.mem_cons_self)
        · exact absurd (h'.trans z) hq
    · have e' : (x == n) = false := by simpa using e
      refine List.mem_cons_of_mem _ (ih ?_)
      have e2 : (x == (if (q == NameKind.free && env.scope.kind == .function && env.kindOf n == some .cell) = true then (n, NameKind.cell) else (n, q)).1) = false := by rw [key]; exact e'
      rw [e2] at h
      exact h
theorem relabel_cap {env : Env} {x : Str} (hk : env.scope.kind = .function) (hc : env.kindOf x = some .cell) : ∀ {names : List (Str × NameKind)}, names.lookup x = some .free →
    (names.map fun (n, k) => if (k == NameKind.free && env.scope.kind == .function && env.kindOf n == some .cell) then (n, NameKind.cell) else (n, k)).lookup x = some .cell
  | [], h => by simp at h
  | (n, q) :: r, h => by
    have ih := @relabel_cap env x hk hc r
    rw [List.lookup_cons] at h
    rw [List.map_cons, List.lookup_cons]
    by_cases e : (x == n) = true
    · have en : x = n := by simpa using e
      subst en
      rw [e] at h
      have hq : q = .free := Option.some.inj h
      subst hq
      simp [hk, hc]
    · have e' : (x == n) = false := by simpa using e
      rw [e'] at h
      have key : (if (q == NameKind.free && env.scope.kind == .function && env.kindOf n == some .cell) = true then (n, NameKind.cell) else (n, q)).1 = n := by split <;> rfl
      have e2 : (x == (if (q == NameKind.free && env.scope.kind == .function && env.kindOf n == some .cell) = true then (n, NameKind.cell) else (n, q)).1) = false := by rw [key]; exact e'
      rw [e2]
      exact ih h

noncomputable def stB (own : List Str) (cap : List Nat) (σ : St) : St := (own.map fun _ => none) ++ cap.map fun i => (σ[i]?).getD none

section
variable {X : Cx} {pins : List (Addr × Obj)} {σ : St} {H : Hp} {s : Shared} {scope : Scope} {NB own : List Str} {cap : List Nat} {fp : List Addr} {C : Addr}
theorem Blk.cells (B : Blk X scope NB own cap) (ok : X.Ok) {x : Str} {c : Addr} (h : (clOf X.env.cells scope.names []).lookup x = some c) : X.env.cells.lookup x = some c ∧ (x, NameKind.free) ∈ scope.names := by
  rcases clOf_mem (PySem.mem_of_lookup h) with q | ⟨q, e⟩
  · simp at q
  · obtain ⟨d, hd⟩ := ok.has x (.inl (B.free (x, .free) q rfl))
    have e : c = (X.env.cells.lookup x).getD 0 := e
    rw [hd] at e
    refine ⟨?_, q⟩
    rw [hd, e]; rfl
theorem Blk.cell (B : Blk X scope NB own cap) (ok : X.Ok) {x : Str} (h : (x, NameKind.free) ∈ scope.names) : ∃ c, (clOf X.env.cells scope.names []).lookup x = some c := lookup_of_mem (clOf_has h)
theorem Blk.start (B : Blk X scope NB own cap) (I : Inv X pins σ H s) (hf : ∀ b ∈ fp, FpOk X pins H b) (hfs : ∀ b ∈ fp, ∃ o, s.heap.get? b = some o) {h' : Heap} {tk : Nat} {m : Str → Option Value} (hC : s.heap.objs.size ≤ C)
    (k : ∀ b o, s.heap.get? b = some o → h'.get? b = some o) (hn : h'.Ns C m) :
    Inv (cxB X NB own scope C fp s H) [] (stB own cap σ) H { s with heap := h', toks := tk } := by
  have hlen : NB.length = own.length + cap.length := by rw [B.nb]; simp
  have okB : (cxB X NB own scope C fp s H).Ok := by
    refine ⟨I.ok.mod, B.kind, I.ok.glob, I.ok.blt, hC, fun x y c h1 h2 => I.ok.inj x y c (B.cells I.ok h1).1 (B.cells I.ok h2).1, fun x hx => ?_, fun x c h1 h2 => ?_, I.ok.hd, I.ok.frames, .inl rfl, fun b hb => ⟨?_, fun x c h => ?_⟩, I.bs, Nat.le_trans I.ok.bsz I.sz, fun b o e hb => ?_, fun b hb z => ?_, I.stack, I.stkFree⟩
    · have : (x, NameKind.free) ∈ scope.names := by
        rcases hx with z | z
        · exact relabel_free (.inl rfl) B.nocell z
        · exact relabel_free (.inr rfl) B.nocell z
      exact B.cell I.ok this
    · have hx : x ∈ own := by simpa [cxB] using h1
      have q := B.owns x hx _ (B.cells I.ok h2).2 rfl
      exact absurd q (by simp)
    · obtain ⟨o, e⟩ := hfs b hb
      exact Nat.ne_of_lt (Nat.lt_of_lt_of_le (Heap.lt_size e) hC)
    · exact (hf b hb).2.2.2.2.1 x c (B.cells I.ok h).1
    · have hb : b ∈ fp := hb
      rcases (hf b hb).2.2.2.1 with z | z
      · exact I.ok.noex b o e z
      · exact absurd (Nat.lt_of_lt_of_le (Heap.lt_size e) (Nat.le_trans I.ok.bsz z)) (Nat.lt_irrefl _)
    · rcases List.mem_cons.mp (I.stkSub b z) with z | z
      · exact (hf b hb).2.1 z
      · exact (hf b hb).2.2.1 z
  refine ⟨okB, rfl, I.bare, Un.kept k, ⟨m, hn, fun i x v e1 e2 e3 => ?_⟩, fun x c h => ?_, I.hok.fresh hC, fun x c h => I.freeC x c (B.cells I.ok h).1, fun p hp => absurd (show p ∈ ([] : List (Addr × Obj)) from hp) (by simp), I.hok.kept k, ?_⟩
  · have e1 : NB[i]? = some x := e1
    have hi : ¬ i < own.length := fun hi => by
      unfold stB at e2
      rw [List.getElem?_append_left (by simpa using hi), List.getElem?_map] at e2
      cases q : own[i]? <;> rw [q] at e2 <;> cases e2
    unfold stB at e2
    rw [List.getElem?_append_right (by simpa using hi), List.getElem?_map] at e2
    rw [B.nb, List.getElem?_append_right (by omega), List.getElem?_map] at e1
    simp only [List.length_map] at e2
    cases q : cap[i - own.length]? with
    | none => rw [q] at e1; cases e1
    | some j =>
      rw [q] at e1 e2
      have ex : X.N.getD j "" = x := Option.some.inj e1
      have ev : (σ[j]?).getD none = some v := Option.some.inj e2
      obtain ⟨hj, hjf⟩ := B.caps j (List.mem_of_getElem? q)
      rw [ex] at hjf
      have hN : X.N[j]? = some x := by rw [← ex, List.getD_eq_getElem?_getD, List.getElem?_eq_getElem hj]; rfl
      have hσ : σ[j]? = some (some v) := by
        cases z : σ[j]? with
        | none => rw [z] at ev; cases ev
        | some u => rw [z] at ev; exact congrArg some ev
      have hmem : (x, NameKind.free) ∈ scope.names := PySem.mem_of_lookup hjf
      have hkc := B.free _ hmem rfl
      obtain ⟨m0, hn0, hl⟩ := I.loc
      obtain ⟨u, r, l⟩ := hl j x v hN hσ (.inr (.inl hkc))
      refine ⟨u, r, .inr ⟨.inl (relabel_cap B.outk hkc hjf), ?_⟩⟩
      obtain ⟨c, hc⟩ := B.cell I.ok hmem
      refine ⟨c, hc, ?_⟩
      rcases l with ⟨z, _⟩ | ⟨_, c', hc', ⟨oc, hoc, hd⟩⟩
      · rw [show X.env.kindOf x = some .cell from hkc] at z; cases z
      · have := (B.cells I.ok hc).1
        rw [hc'] at this
        have : c' = c := Option.some.inj this
        subst this
        exact ⟨oc, k _ _ hoc, hd⟩
  · obtain ⟨v, oc, hoc, hd⟩ := I.cell x c (B.cells I.ok h).1
    exact ⟨v, oc, k _ _ hoc, hd⟩
  · show (stB own cap σ).length = NB.length
    unfold stB
    rw [hlen]; simp
theorem Blk.done (B : Blk X scope NB own cap) (I : Inv X pins σ H s) (hf : ∀ b ∈ fp, FpOk X pins H b) {σB : St} {H' : Hp} {s' : Shared} {h'' : Heap} {D : Addr} {ys : List V} {its : List Value} {n : Nat} (hC : s.heap.objs.size ≤ C) (hD : s.heap.objs.size ≤ D) (hDC : D ≠ C)
    (J : Inv (cxB X NB own scope C fp s H) [] σB H' s') (hn : H' D = none) (e : s'.heap.get? D = some { cls := .type "list", data := .seq its.toArray n }) (hv : Vals ys its) (hz : ys.length ≤ sizeLine)
    (sb : Heap.SameBut C s'.heap h'') : Inv X pins σ (upd H' D (.lst ys)) { s' with heap := h'' } := by
  have un : Un (frs X.stack) fp H H' s.heap s'.heap := J.base
  have neC : ∀ {b o}, s.heap.get? b = some o → b ≠ C := fun q => Nat.ne_of_lt (Nat.lt_of_lt_of_le (Heap.lt_size q) hC)
  have neD : ∀ {b o}, s.heap.get? b = some o → b ≠ D := fun q => Nat.ne_of_lt (Nat.lt_of_lt_of_le (Heap.lt_size q) hD)
  have hCn : H' C = none := J.free
  refine I.call' (s' := { s' with heap := h'' }) (ch := fp) J.os ⟨fun b o q n hb hx => ?_, fun b o q n hb hx => ?_, fun b o q n hx => ?_, fun b o q hx => ?_, fun b xs q => ?_, fun b o u q => ?_, fun b ps q => ?_⟩ (fun b u q => ?_) J.bare fun b hb => ?_
  · exact (sb.2 b (neC q)).trans (un.keep b o q n hb hx)
  · obtain ⟨sl, r⟩ := un.slot b o q n hb hx
    exact ⟨sl, (sb.2 b (neC q)).trans r⟩
  · rw [upd_ne (neD q)]
    exact un.free b o q n hx
  · obtain ⟨o', r⟩ := un.there b o q hx
    exact ⟨o', (sb.2 b (neC q)).trans r⟩
  · have r := un.tups b xs q
    rw [upd_ne (ne_of_none r hn)]
    exact r
  · have r := un.frzs b o u q
    rw [upd_ne (ne_of_none r hn)]
    exact r
  · obtain ⟨more, r⟩ := un.tbls b ps q
    exact ⟨more, by rw [upd_ne (ne_of_none r hn)]; exact r⟩
  · by_cases hb : b = D
    · subst hb
      rw [upd_same] at q
      cases q
      exact ⟨hz, its, n, hv, (sb.2 b hDC).trans e⟩
    · rw [upd_ne hb] at q
      refine (J.hok b u q).stay (fun c v hc r => (sb.2 c ?_).trans r) (fun c r => ?_) fun c xs r => ?_
      · rcases hc with z | z
        · rw [z]; exact ne_of_none q hCn
        · exact ne_of_none z hCn
      · rw [upd_ne (ne_of_none r hn)]; exact r
      · rw [upd_ne (ne_of_none r hn)]; exact r
  · obtain ⟨_, f1, _, f3, f4, f5⟩ := hf b hb
    exact ⟨f3, f1, f4, f5⟩
end

noncomputable def PIf (X : Cx) (ifs : List Expr) (t : TT) : Prop :=
  ∀ (pins : List (Addr × Obj)) (s : Shared) (σ : St) (H : Hp) (Q : Bool → Hp → Prop), Inv X pins σ H s → t σ H Q →
    wpAny (model X.prog X.w) X.A (forIn ifs true fun c r => if r = true then do let ok ← isTrue c X.env (eval c X.env); pure (ForInStep.yield ok) else pure (ForInStep.yield r)) (TP X pins σ Q) X.xe s
noncomputable def tYes : TT := fun _ H Q => Q true H
theorem pifs_nil {X : Cx} : PIf X [] tYes := fun _ _ _ H _ I h => wpAny_tests_nil ⟨H, I, h⟩
theorem pifs_one {X : Cx} {c : Expr} {t : TT} (h : PT X c t) : PIf X [c] t := fun pins s σ H Q I q => wpAny_tests_one (h pins s σ H Q I q)

section
variable {prog : Program} {w : World} {A : Around} {R : Result → Shared → Prop} {s : Shared}
noncomputable abbrev noE : Value → Shared → Prop := fun _ _ => False
theorem comp_loop {elt tg iter : Expr} {ifs : List Expr} {scope : Scope} {pos : Pos} {it acc : Value} {env : Env} (I : Nat → Shared → Prop)
    (turn : ∀ n s, I n s → wpAny (model prog w) A (pyNext it) (fun r s₁ => match r with
      | none => R (.ok .next) s₁
      | some v => wpAny (model prog w) A (letOwnedTupleGo tg it v) (fun _ s₀ => wpAny (model prog w) A (assign tg env v) (fun _ s₂ =>
          wpAny (model prog w) A (forIn ifs true fun c r => if r = true then do let ok ← isTrue c env (eval c env); pure (ForInStep.yield ok) else pure (ForInStep.yield r)) (fun ok s₃ =>
            if ok = true then wpAny (model prog w) A (eval elt env) (fun x s₄ => wpAny (model prog w) A (call (.builtin "list.append") [acc, x]) (fun _ s₅ => ∃ m, m < n ∧ I m s₅) noE s₄) noE s₃
            else ∃ m, m < n ∧ I m s₃) noE s₂) noE s₀) noE s₁) noE s)
    (n : Nat) (h : I n s) : codeAny (model prog w) A (.compLoop (.ListComp elt [⟨tg, iter, ifs, 0⟩] scope pos) 0 it acc env) R s := by
  refine codeAny_loop rfl I (fun n s hI => ?_) n h
  show wpAny _ A ((compTurn (.ListComp elt [⟨tg, iter, ifs, 0⟩] scope pos) 0 it acc env).onRaise (fun x => do noteFrame x env; theTreesLotGoes x)) _ _ s
  refine wpAny_noted ?_
  rw [compTurn_list]
  refine wpAny_bind (wpAny_standAt (wpAny_bind (wpAny_mono (turn n s hI) (fun r s₁ h₁ => ?_) fun _ _ z => False.elim z)))
  cases r with
  | none => exact wpAny_pure h₁
  | some v =>
    refine wpAny_bind (wpAny_mono h₁ (fun _ s₀ h₀ => wpAny_bind (wpAny_mono h₀ (fun _ s₂ h₂ => wpAny_bind (wpAny_mono h₂ (fun ok s₃ h₃ => ?_) fun _ _ z => False.elim z)) fun _ _ z => False.elim z)) fun _ _ z => False.elim z)
    cases ok with
    | false => exact wpAny_pure ⟨rfl, h₃⟩
    | true => exact wpAny_bind (wpAny_bind (wpAny_mono h₃ (fun x s₄ h₄ => wpAny_bind (wpAny_mono h₄ (fun _ s₅ h₅ => wpAny_pure (wpAny_pure ⟨rfl, h₅⟩)) fun _ _ z => False.elim z)) fun _ _ z => False.elim z))
end

noncomputable def CompW (own : List Str) (cap : List Nat) (g : TG) (ti : TT) (te : TE) (Q : VK) (σ : St) (J : It) (H1 : Hp) : Prop := ∃ W : Nat → Nat → List V → St → Hp → Prop, (∃ m, W 0 m [] (stB own cap σ) H1) ∧ ∀ i m ys σ H, W i m ys σ H →
  (J.stop i H ∧ ys.length ≤ sizeLine ∧ ∀ D, H D = none → Q (.ref D) (upd H D (.lst ys))) ∨
  (J.go i H ∧ ys.length < sizeLine ∧ ∀ x H', J.yld i H x H' → g x σ H' fun σ2 H2 => ti σ2 H2 fun b H3 => if b = true then te σ2 H3 fun y H4 => ∃ m', m' < m ∧ W (i + 1) m' (ys ++ [y]) σ2 H4 else ∃ m', m' < m ∧ W (i + 1) m' ys σ2 H3)
noncomputable def tComp (own : List Str) (cap : List Nat) (wi : TI) (g : TG) (ti : TT) (te : TE) : TE := fun σ H Q => wi σ H fun J H1 => CompW own cap g ti te Q σ J H1

theorem pe_comp {X : Cx} {elt iter tg : Expr} {ifs : List Expr} {scope : Scope} {pos : Pos} {NB own : List Str} {cap : List Nat} {wi : TI} {g : TG} {ti : TT} {te : TE} (B : Blk X scope NB own cap) (hc : X.calm = true) (hi : PI X tg iter wi)
    (hg : ∀ C fp s₀ H₀, PG (cxB X NB own scope C fp s₀ H₀) tg g) (ht : ∀ C fp s₀ H₀, PIf (cxB X NB own scope C fp s₀ H₀) ifs ti) (he : ∀ C fp s₀ H₀, PE (cxB X NB own scope C fp s₀ H₀) elt te)
    (hs : ∀ x, foldedSetIterable iter X.env x = pure x := by intro _; rfl) : PE X (.ListComp elt [⟨tg, iter, ifs, 0⟩] scope pos) (tComp own cap wi g ti te) := by
  intro pins s σ H Q I0 h
  rw [eval_ListComp]
  have hclos := closureFor_is (env := X.env) (scope := scope) fun y hy e => I0.ok.has y.1 (.inl (B.free y hy e))
  refine wpAny_comprehension_free (use := none) rfl hs hclos B.kind B.names (thn (hi pins s σ H _ I0 h) fun v s1 h1 => thn h1 fun itv s2 h2 => ?_)
  obtain ⟨it, fp, tn, J, H2, rfl, I, T, st2, f2, W, ⟨m0, w0⟩, turn⟩ := h2
  refine wpAny_newList ?_
  refine wpAny_newFunctionEnv B.nocell (by intro y hy; simp at hy) (fun h₁ hns₁ hsb₁ => ?_) B.kind
  dsimp only at hns₁ hsb₁ ⊢
  generalize hP : s2.heap.push { cls := .type "list", dict := none, data := .seq ([] : List Value).toArray } = P at hns₁ hsb₁ ⊢
  have hC : P.objs.size = s2.heap.objs.size + 1 := by rw [← hP, Heap.size_push]
  have hDC : s2.heap.objs.size ≠ P.objs.size := by rw [hC]; exact Nat.ne_of_lt (Nat.lt_succ_self _)
  have hCle : s2.heap.objs.size ≤ P.objs.size := by rw [hC]; exact Nat.le_succ _
  have old : ∀ b o, s2.heap.get? b = some o → h₁.get? b = some o := fun b o e => by
    refine (hsb₁.2 b ?_).trans (Heap.get?_push_of_some _ (hP ▸ Heap.get?_push_of_some _ e))
    exact Nat.ne_of_lt (Nat.lt_of_lt_of_le (Heap.lt_size e) hCle)
  have hD : h₁.get? s2.heap.objs.size = some { cls := .type "list", data := .seq ([] : List Value).toArray 0 } := by
    refine (hsb₁.2 _ hDC).trans (Heap.get?_push_of_some _ ?_)
    rw [← hP]
    exact Heap.get?_push_size _ rfl
  have hfs : ∀ b ∈ fp, ∃ o, s2.heap.get? b = some o := fun b hb => let ⟨o, e, _⟩ := T.obj _ _ st2 b hb; ⟨o, e⟩
  have st4 : tn 0 h₁ := T.keep _ _ _ st2 fun b _ o e => old b o e
  generalize htk : s2.toks + ([] : List (Str × Value)).length = tk4
  have I4 := B.start (C := P.objs.size) (tk := tk4) I f2 hfs hCle old hns₁
  have fOk : ∀ {H' : Hp} {b : Addr} {ob : Obj}, b ∈ fp → H' b = none → FpOk (cxB X NB own scope P.objs.size fp s2 H2) [(s2.heap.objs.size, ob)] H' b := fun {H' b ob} hb hn => by
    obtain ⟨o, e⟩ := hfs b hb
    refine ⟨hn, (I4.ok.exf b hb).1, I4.ok.exfs b hb, .inl hb, (I4.ok.exf b hb).2, fun p hp => ?_⟩
    have ep : p = (s2.heap.objs.size, ob) := List.mem_singleton.mp (show p ∈ [(s2.heap.objs.size, ob)] from hp)
    rw [ep]
    exact fun z => absurd (Heap.lt_size e) (by rw [← z]; exact Nat.lt_irrefl _)
  have dnf : s2.heap.objs.size ∉ frs X.stack := fun z => by
    rcases List.mem_cons.mp (I.stkSub _ z) with z | z
    · exact absurd I.lt (by rw [← z]; exact Nat.lt_irrefl _)
    · exact I.nofs (Nat.le_refl _) z
  have I3D : ∀ {σ3 : St} {H3 : Hp} {s3 : Shared} {its : List Value} {k : Nat}, Inv (cxB X NB own scope P.objs.size fp s2 H2) [] σ3 H3 s3 → s3.heap.get? s2.heap.objs.size = some { cls := .type "list", data := .seq its.toArray k } → H3 s2.heap.objs.size = none →
      Inv (cxB X NB own scope P.objs.size fp s2 H2) [(s2.heap.objs.size, { cls := .type "list", data := .seq its.toArray k })] σ3 H3 s3 := fun I3 e n => I3.pins_of fun p hp => by
    have ep := List.mem_singleton.mp hp
    subst ep
    exact ⟨e, n, hDC, dnf, fun v z => by cases z⟩
  have ndf : s2.heap.objs.size ∉ fp := fun z => by
    obtain ⟨o, e⟩ := hfs _ z
    exact absurd (Heap.lt_size e) (Nat.lt_irrefl _)
  have nCD : ∀ x c, (cxB X NB own scope P.objs.size fp s2 H2).env.cells.lookup x = some c → c ≠ s2.heap.objs.size := fun x c e z => by
    obtain ⟨v, o, ho, _⟩ := I.cell x c (B.cells I.ok e).1
    rw [z] at ho
    exact absurd (Heap.lt_size ho) (Nat.lt_irrefl _)
  have loop : ∀ s₃ : Shared, s₃ = { s2 with heap := h₁, toks := tk4 } → codeAny (model X.prog X.w) X.A (.compLoop (.ListComp elt [⟨tg, iter, ifs, 0⟩] scope pos) 0 (.ref it) (.ref s2.heap.objs.size) (cxB X NB own scope P.objs.size fp s2 H2).env)
      (compPost (model X.prog X.w) X.A X.xe none (EP X pins σ Q) (.ref s2.heap.objs.size) P.objs.size) s₃ := by
    rintro s₃ rfl
    refine comp_loop (fun n s' => ∃ i σB H' ys its k, Inv (cxB X NB own scope P.objs.size fp s2 H2) [] σB H' s' ∧ tn i s'.heap ∧ (∀ b ∈ fp, H' b = none) ∧ s'.heap.get? s2.heap.objs.size = some { cls := .type "list", data := .seq (its : List Value).toArray k } ∧ Vals ys its ∧ H' s2.heap.objs.size = none ∧ W i n ys σB H') ?_ m0
      ⟨0, stB own cap σ, H2, [], [], 0, I4, st4, fun b hb => (f2 b hb).1, hD, .nil, I.hok.fresh (Nat.le_refl _), w0⟩
    rintro n s3 ⟨i, σ3, H3, ys, its, k, I3, st3, fr3, hD3, rv, hn3, w3⟩
    rcases turn i n ys σ3 H3 w3 with ⟨stop, hz, q⟩ | ⟨go, hz, step⟩
    · refine thn (T.done (cxB X NB own scope P.objs.size fp s2 H2) rfl rfl rfl hc i _ s3 σ3 H3 noE (I3D I3 hD3 hn3) (fun b hb => fOk hb (fr3 b hb)) st3 stop) fun r s4 zq1 => ?_
      obtain ⟨hr, I4'⟩ := zq1
      subst hr
      have hD4 : s4.heap.get? s2.heap.objs.size = some { cls := .type "list", data := .seq (its : List Value).toArray k } := (I4'.pin (s2.heap.objs.size, _) (List.mem_append_right _ (List.mem_singleton.mpr rfl))).1
      have I5 : Inv (cxB X NB own scope P.objs.size fp s2 H2) [] σ3 H3 s4 := I4'.pins_of fun p hp => absurd (show p ∈ ([] : List (Addr × Obj)) from hp) (by simp)
      obtain ⟨mC, hnC, _⟩ := I5.loc
      exact ⟨mC, hnC, fun h'' sb => ⟨.ref s2.heap.objs.size, _, B.done I f2 hCle (Nat.le_refl _) hDC I5 hn3 hD4 rv hz sb, rfl, q _ hn3⟩⟩
    · refine thn (T.item (cxB X NB own scope P.objs.size fp s2 H2) rfl rfl rfl hc i _ s3 σ3 H3 noE (I3D I3 hD3 hn3) (fun b hb => fOk hb (fr3 b hb)) st3 go) fun r s4 zq2 => ?_
      obtain ⟨u, hr, h4⟩ := zq2
      subst hr
      refine thn h4 fun _ s5 zq3 => ?_
      obtain ⟨x, H5, I5, r5, y5, st5, fr5⟩ := zq3
      have I5' := I5.pinned (fun b hb => fOk hb (fr5 b hb)) (T.obj _ _ st5)
      refine thn (hg _ fp s2 H2 _ s5 σ3 H5 x u _ I5' r5 (step x H5 y5)) fun _ s6 zq4 => ?_
      obtain ⟨σ6, H6, I6, q6⟩ := zq4
      refine thn (ht _ fp s2 H2 _ s6 σ6 H6 _ I6 q6) fun b s7 zq5 => ?_
      obtain ⟨H7, I7, q7⟩ := zq5
      have pinned : ∀ {σ8 : St} {H8 : Hp} {s8 : Shared}, Inv (cxB X NB own scope P.objs.size fp s2 H2) ([(s2.heap.objs.size, { cls := .type "list", data := .seq (its : List Value).toArray k })] ++ pinsAt fp s5.heap) σ8 H8 s8 →
          tn (i + 1) s8.heap ∧ (∀ b ∈ fp, H8 b = none) ∧ s8.heap.get? s2.heap.objs.size = some { cls := .type "list", data := .seq (its : List Value).toArray k } ∧ H8 s2.heap.objs.size = none := fun {σ8 H8 s8} I8 => by
        refine ⟨T.keep _ _ _ st5 fun b hb o e => (I8.pin (b, o) (List.mem_append_right _ (List.mem_append_right _ (mem_pinsAt hb e)))).1, fun b hb => ?_, ?_, ?_⟩
        · obtain ⟨o, e, d⟩ := T.obj _ _ st5 b hb
          exact (I8.pin (b, o) (List.mem_append_right _ (List.mem_append_right _ (mem_pinsAt hb e)))).2.1
        · exact (I8.pin (s2.heap.objs.size, _) (List.mem_append_right _ (List.mem_append_left _ (List.mem_singleton.mpr rfl)))).1
        · exact (I8.pin (s2.heap.objs.size, _) (List.mem_append_right _ (List.mem_append_left _ (List.mem_singleton.mpr rfl)))).2.1
      have nopin : ∀ {pp : List (Addr × Obj)} {σ8 : St} {H8 : Hp} {s8 : Shared}, Inv (cxB X NB own scope P.objs.size fp s2 H2) pp σ8 H8 s8 → Inv (cxB X NB own scope P.objs.size fp s2 H2) [] σ8 H8 s8 := fun I8 => I8.pins_of fun p hp => absurd (show p ∈ ([] : List (Addr × Obj)) from hp) (by simp)
      cases b with
      | false =>
        rw [if_neg Bool.false_ne_true] at q7 ⊢
        obtain ⟨m', hm, w7⟩ := q7
        obtain ⟨p1, p2, p3, p4⟩ := pinned I7
        exact ⟨m', hm, i + 1, σ6, H7, ys, its, k, nopin I7, p1, p2, p3, rv, p4, w7⟩
      | true =>
        rw [if_pos rfl] at q7 ⊢
        refine thn (he _ fp s2 H2 _ s7 σ6 H7 _ I7 q7) fun yv s8 zq6 => ?_
        obtain ⟨y, H8, I8, r8, m', hm, w8⟩ := zq6
        obtain ⟨p1, p2, p3, p4⟩ := pinned I8
        refine call_meets F.slot_list_append ⟨_, p3, rfl⟩ F.entry_list_append (F.args_list_append_2 _ _) (PySem.list_append s2.heap.objs.size its.toArray k yv (by rw [List.size_toArray, ← rv.length]; omega)) ⟨p3, ?_⟩
        have q := PySem.IsL.update p3 fun a => a.push yv
        have ea : its.toArray.push yv = (its ++ [yv]).toArray := by simp
        rw [ea] at q
        have I9 : Inv (cxB X NB own scope P.objs.size fp s2 H2) [] σ6 H8 { s8 with heap := s8.heap.update s2.heap.objs.size (Obj.mapSeq fun a => a.push yv), toks := s8.toks } :=
          (nopin I8).turned (it := s2.heap.objs.size) (fun b o hb e => (Heap.get?_update_other s8.heap _ (Ne.symm hb)).trans e) p4 hDC (.inr (Nat.le_refl _)) (fun x c e => nCD x c e) fun p hp => absurd (show p ∈ ([] : List (Addr × Obj)) from hp) (by simp)
        refine ⟨m', hm, i + 1, σ6, H8, ys ++ [y], its ++ [yv], _, I9, ?_, p2, q, rv.append (.cons r8 .nil), p4, w8⟩
        refine T.keep _ _ _ p1 fun b hb o e => (Heap.get?_update_other s8.heap _ ?_).trans e
        intro z
        rw [z] at ndf
        exact ndf hb
  exact codeAny_compStart_list (loop _ rfl) (T.self X.A 0 _ _ _ st4 (loop _ rfl))

theorem comp_by {own : List Str} {cap : List Nat} {J : It} {g : TG} {ti : TT} {te : TE} {σ : St} {H : Hp} {Q : VK} (n : Nat) (Pv : Nat → List V → St → Hp → Prop) (h0 : Pv 0 [] (stB own cap σ) H) (hz : ∀ i ys σ H, i ≤ n → Pv i ys σ H → ys.length ≤ i) (hn : n ≤ sizeLine)
    (hgo : ∀ i ys σ H, i < n → Pv i ys σ H → J.go i H) (hst : ∀ ys σ H, Pv n ys σ H → J.stop n H)
    (hs : ∀ i ys σ H x H' (N : List V → St → Hp → Prop), i < n → Pv i ys σ H → J.yld i H x H' → (∀ ys' σ' H'', Pv (i + 1) ys' σ' H'' → N ys' σ' H'') → g x σ H' fun σ2 H2 => ti σ2 H2 fun b H3 => if b = true then te σ2 H3 fun y H4 => N (ys ++ [y]) σ2 H4 else N ys σ2 H3)
    (hd : ∀ ys σ H D, Pv n ys σ H → H D = none → Q (.ref D) (upd H D (.lst ys))) :
    CompW own cap g ti te Q σ J H := by
  refine ⟨fun i m ys σ H => m = n - i ∧ i ≤ n ∧ Pv i ys σ H, ⟨n, by simp, Nat.zero_le _, h0⟩, ?_⟩
  rintro i m ys σ H ⟨rfl, hi, p⟩
  have hl := hz i ys σ H hi p
  by_cases hlt : i < n
  · refine .inr ⟨hgo i ys σ H hlt p, by omega, fun x H' y => ?_⟩
    exact hs i ys σ H x H' (fun ys' σ' H'' => ∃ m', m' < n - i ∧ m' = n - (i + 1) ∧ i + 1 ≤ n ∧ Pv (i + 1) ys' σ' H'') hlt p y fun ys' σ' H'' q => ⟨n - (i + 1), by omega, rfl, hlt, q⟩
  · have e : i = n := by omega
    subst e
    exact .inl ⟨hst ys σ H p, by omega, fun D hD => hd ys σ H D p hD⟩
end L2
set_option Elab.async false
set_option linter.all false
set_option maxRecDepth 100000
namespace L2
open PySem PySem.Spec PyProof.Rows

noncomputable def Its (z : Str) : It := ⟨fun i _ => i < z.cps.size, fun i H x H' => H' = H ∧ ∃ c, z.cps[i]? = some c ∧ x = .str ⟨#[c]⟩, fun i _ => i = z.cps.size⟩
theorem turn_of_walks {P : Program} {w : World} {K : PySem.W.Frag} {tg : Expr} {it n : Nat} {Pv : Nat → Value → Prop} {st : Nat → Heap → Prop} {J : It} {T : String} {fl : Nat → Array Value}
    (W : ∀ A : Around, A.handled = none → Walks P w A it [it] [it] n Pv st) (hst : ∀ i h, st i h → ∃ o, h.get? it = some o ∧ o.cls = .type T ∧ o.data = .fields (fl i))
    (hT : ["enumerate", "zip", "dict_itemiterator", "dict_reverseitemiterator", "odict_iterator", "itertools.zip_longest", "itertools.pairwise"].contains T = false)
    (hgo : ∀ i H, J.go i H → i < n) (hstop : ∀ i H, J.stop i H → i = n) (hy : ∀ i H u, J.go i H → Pv i u → ∃ x, RelV x u ∧ J.yld i H x H)
    (hself : ∀ (A : Around) (i : Nat) (s : Shared) (Q : Value → Shared → Prop) (E : Value → Shared → Prop), st i s.heap → Q (.ref it) s → wpAny (model P w) A (pyIter (.ref it)) Q E s) : Turn P w K tg J [it] it st where
  mem := by simp
  obj := fun i h s b hb => by
    have e : b = it := by simpa using hb
    subst e
    obtain ⟨o, e, c, d⟩ := hst i h s
    exact ⟨o, e, fun v z => by rw [d] at z; cases z⟩
  keep := fun i h h' s k => (W {} rfl).frame i h h' s k
  item := by
    intro X hP hw hK hc i pins s σ H E I hf s0 hg
    subst hP hw hK
    obtain ⟨f0, f1, f2, f3, f4, f5⟩ := hf it (by simp)
    refine (W X.A (I.ok.hd hc)).item i s _ _ (hgo i H hg) s0 fun v h' tk hv st' kk => ?_
    have I1 : Inv X pins σ H { s with heap := h', toks := tk } := I.turned (fun b o hb e => kk b o (by simpa using hb) e) f0 f1 f3 f4 f5
    obtain ⟨o, e, c, d⟩ := hst _ _ st'
    obtain ⟨x, rx, yx⟩ := hy i H v hg hv
    exact ⟨v, rfl, go_of (s := { s with heap := h', toks := tk }) e c d hT ⟨x, H, I1, rx, yx, st', fun b hb => (hf b hb).1⟩⟩
  done := by
    intro X hP hw hK hc i pins s σ H E I hf s0 hg
    subst hP hw hK
    obtain ⟨f0, f1, f2, f3, f4, f5⟩ := hf it (by simp)
    have e := hstop i H hg
    subst e
    exact (W X.A (I.ok.hd hc)).done s _ _ s0 fun h' tk kk => ⟨rfl, I.turned (fun b o hb e => kk b o (by simpa using hb) e) f0 f1 f3 f4 f5⟩
  self := hself

section
variable {X : Cx} {tg : Expr}
noncomputable def iStr (tl : TE) : TI := fun σ H R => tl σ H fun x H1 => ∃ z, x = .str z ∧ R (Its z) H1
theorem its_yld {z : Str} {i : Nat} {H : Hp} {u : Value} (h : SignAt z i u) : ∃ x, RelV x u ∧ (Its z).yld i H x H := by
  obtain ⟨c, t, e, rfl⟩ := h
  exact ⟨.str ⟨#[c]⟩, ⟨t, rfl⟩, rfl, c, e, rfl⟩
theorem pi_str {l : Expr} {tl : TE} (hl : PE X l tl) : PI X tg l (iStr tl) := by
  intro pins s σ H R I h
  refine thn (hl pins s σ H _ I h) fun v s1 zq1 => ?_
  obtain ⟨x, H1, I1, r1, q1⟩ := zq1
  obtain ⟨z, rfl, q⟩ := q1
  obtain ⟨t, rfl⟩ := r1
  have fp : ∀ b ∈ [s1.heap.objs.size], FpOk X pins H1 b := fun b hb => by
    have e : b = s1.heap.objs.size := by simpa using hb
    subst e
    exact I1.fpOk (Nat.le_refl _) (I1.hok.fresh (Nat.le_refl _))
  cases ha : z.cps.all (· < 128)
  · refine wpAny_pyIter_wide ha ⟨s1.heap.objs.size, [s1.heap.objs.size], _, Its z, H1, rfl, I1.kept (t' := s1.toks) fun b o e => Heap.get?_push_of_some _ e,
      turn_of_walks (T := "str_iterator") (fl := fun i => #[.str z t, .int i 0]) (fun A hh => Walks.strWide hh _ z t) (fun i h st => st) (by decide) (fun i H g => g) (fun i H g => g) (fun i H u _ hu => its_yld hu) (fun A i s Q E st h => wpAny_pyIter_striter_wide st h), ⟨_, Heap.get?_push_size _ rfl, rfl, rfl⟩, fp, q⟩
  · refine wpAny_pyIter_ascii ha ⟨s1.heap.objs.size, [s1.heap.objs.size], _, Its z, H1, rfl, I1.kept (t' := s1.toks) fun b o e => Heap.get?_push_of_some _ e,
      turn_of_walks (T := "str_ascii_iterator") (fl := fun i => #[.str z t, .int i 0]) (fun A hh => Walks.strAscii hh _ z t) (fun i h st => st) (by decide) (fun i H g => g) (fun i H g => g) (fun i H u _ hu => its_yld hu) (fun A i s Q E st h => wpAny_pyIter_striter_ascii st h), ⟨_, Heap.get?_push_size _ rfl, rfl, rfl⟩, fp, q⟩

noncomputable def rSlS : V → Option Int → Option Int → Hp → VK → Prop := fun x lo hi H Q => ∃ z, x = .str z ∧ z.length ≤ sizeLine ∧ Q (.str (Txt.slice z lo hi)) H
theorem sl_str : SlR X rSlS := by
  intro pins s σ H x v vl vu lo hi sl Q I rx hs pl pu h
  obtain ⟨z, rfl, hz, q⟩ := h
  obtain ⟨t, rfl⟩ := rx
  have fin : ∀ (lo hi : Option Int), Q (.str (Txt.slice z lo hi)) H → ∀ t' k, EP X pins σ Q (.str (Txt.slice z lo hi) t') { s with toks := k } := fun lo hi q t' k => ⟨.str _, H, I.tok _, ⟨_, rfl⟩, q⟩
  refine ⟨"str", _, F.slot_str_getitem.lookup, typeIs_str _ _ _, ?_⟩
  cases pl with
  | none =>
    cases pu with
    | none => exact wpAny_getItem_str_slice (l := none) (u := none) (st := none) hs rfl (post_val_or_str ⟨Nat.le_trans (Txt.slice_le z _ _) hz, fun t' k => fin _ _ q t' k⟩)
    | int j uj => exact wpAny_getItem_str_slice (l := none) (u := some (j, uj)) (st := none) hs rfl (post_val_or_str ⟨Nat.le_trans (Txt.slice_le z _ _) hz, fun t' k => fin _ _ q t' k⟩)
  | int i ui =>
    cases pu with
    | none => exact wpAny_getItem_str_slice (l := some (i, ui)) (u := none) (st := none) hs rfl (post_val_or_str ⟨Nat.le_trans (Txt.slice_le z _ _) hz, fun t' k => fin _ _ q t' k⟩)
    | int j uj => exact wpAny_getItem_str_slice (l := some (i, ui)) (u := some (j, uj)) (st := none) hs rfl (post_val_or_str ⟨Nat.le_trans (Txt.slice_le z _ _) hz, fun t' k => fin _ _ q t' k⟩)

noncomputable def rLower : V → List V → Hp → VK → Prop := fun x vs H Q => ∃ z, x = .str z ∧ vs = [] ∧ z.length ≤ 5592405 ∧ Q (.str (Txt.lower z)) H
theorem mt_lower : MtR X "str.lower" rLower := by
  intro pins s σ H x vs v us Q I rx rv h
  obtain ⟨z, rfl, rfl, hz, q⟩ := h
  obtain ⟨t, rfl⟩ := rx
  cases rv
  exact SCL.lower hz fun _ => ⟨.str _, H, I.tok _, ⟨_, rfl⟩, q⟩
theorem strsAre_of : ∀ {ys : List Str} {us : List Value}, Vals (ys.map V.str) us → StrsAre us ys
  | [], _, r => by
    rw [List.map_nil] at r
    cases r
    exact .nil
  | y :: ys, us, r => by
    rw [List.map_cons] at r
    cases r with
    | cons r1 r2 =>
      obtain ⟨t, e⟩ := r1
      subst e
      exact .cons y t (strsAre_of r2)
noncomputable def rJoin (K : PySem.W.Frag) : V → List V → Hp → VK → Prop := fun x vs H Q => ∃ z p ys, x = .str z ∧ vs = [.ref p] ∧ SqL K H p (ys.map V.str) ∧ (ys.map (·.length)).sum + ys.length * z.length ≤ 16777216 ∧ Q (.str (Txt.join z ys)) H
theorem mt_join : MtR X "str.join" (rJoin X.K) := by
  intro pins s σ H x vs v us Q I rx rv h
  obtain ⟨z, p, ys, rfl, rfl, hq, hz, q⟩ := h
  obtain ⟨t, rfl⟩ := rx
  obtain ⟨u, rfl, ru⟩ := vals1 rv
  cases ru
  obtain ⟨its, r, pl, _⟩ := I.list hq
  exact join_list pl.isList (by simpa using strsAre_of r) hz fun t' k => ⟨.str _, H, I.tok _, ⟨_, rfl⟩, q⟩


theorem op_mul_str : OpR X (binaryOp .Mult) (fun x y H Q => ∃ z n, x = .str z ∧ y = .int n ∧ MulOk z n ∧ Q (.str (Txt.mul z n)) H) := by
  intro pins s σ H x y v u Q I rx ry h
  obtain ⟨z, n, rfl, rfl, hz, q⟩ := h
  obtain ⟨t, rfl⟩ := rx
  obtain ⟨t', rfl⟩ := ry
  exact SB.mul hz fun t' k => ⟨.str _, H, I.tok _, ⟨_, rfl⟩, q⟩
end

end L2
set_option Elab.async false
set_option linter.all false
set_option maxRecDepth 100000
namespace PySem
open Sem (wp)
open Builtin Builtin.SmallTypes
namespace F
end F

namespace F
end F
section
variable {prog : Program} {w : World} {A : Around} {E : Value → Shared → Prop} {s : Shared} {x : Str} {t : Tok}
end
end PySem

namespace L2
open PySem PySem.Spec PyProof.Rows
section
variable {X : Cx} {tg : Expr}

structure DTx (K : PySem.W.Frag) (w : World) (a : Addr) : Prop where
  ob : ∃ (es : Array DictEntry) (n : Nat), K.lookup a = some ⟨.type "dict", none, .dict es n, #[]⟩ ∧ PySem.W.KeysLit w.params es.toList
end
end L2
set_option linter.all false
namespace Wd
noncomputable abbrev L := Fin 12
noncomputable def inv (x : L) : L := if h : x.val < 6 then ⟨x.val + 6, by omega⟩ else ⟨x.val - 6, by omega⟩
noncomputable def bk (w : List L) : List L := (w.map inv).reverse

noncomputable def push (st : List L) (x : L) : List L := match st with
  | [] => [x]
  | y :: r => if y = inv x then r else x :: y :: r
noncomputable def Rd : List L → Prop
  | [] => True
  | [_] => True
  | x :: y :: r => y ≠ inv x ∧ Rd (y :: r)
noncomputable def rep : Nat → List L → List L
  | 0, _ => []
  | n + 1, w => rep n w ++ w

end Wd
set_option Elab.async false
set_option linter.all false
set_option maxRecDepth 100000
namespace L2
open PySem PySem.Spec PyProof.Rows Wd

noncomputable def cp (x : L) : Nat := if x.val < 6 then 97 + x.val else 59 + x.val
theorem cp_lt : ∀ x : L, cp x < 128 := by decide
noncomputable def toS (w : List L) : Str := ⟨(w.map cp).toArray⟩
noncomputable def tx (w : List L) : V := .str (toS w)
theorem toS_cps (w : List L) : (toS w).cps.toList = w.map cp := by simp [toS]
theorem toS_length (w : List L) : (toS w).length = w.length := by simp [toS, Str.length]
theorem small : toS [0, 1, 2, 3, 4, 5] = ("abcdef" : Str) := by decide +kernel
theorem big : toS [6, 7, 8, 9, 10, 11] = ("ABCDEF" : Str) := by decide +kernel

theorem sign_at {w : List L} {i c : Nat} (h : (toS w).cps[i]? = some c) : ∃ x, w[i]? = some x ∧ (⟨#[c]⟩ : Str) = toS [x] := by
  have h : ((w.map cp).toArray)[i]? = some c := h
  rw [List.getElem?_toArray, List.getElem?_map] at h
  cases e : w[i]? with
  | none => rw [e] at h; cases h
  | some x =>
    rw [e] at h
    have : cp x = c := Option.some.inj h
    exact ⟨x, rfl, by rw [← this]; rfl⟩


theorem lower_toS (w : List L) : Txt.lower (toS w) = ⟨((w.map cp).map lo1).toArray⟩ := by
  rw [lower_ascii fun c hc => by rw [toS_cps] at hc; obtain ⟨x, _, rfl⟩ := List.mem_map.mp hc; exact cp_lt x]
  simp [toS]
end L2
set_option Elab.async false
set_option linter.all false
set_option maxRecDepth 100000
namespace L2
open PySem PySem.Spec PyProof.Rows Wd

structure Fnc (P : Program) (w : World) (K : PySem.W.Frag) (mg : Str → Option Value) (base : Heap) (x : Str) (ps : List Str) (k : Nat) (sp : Sp) : Prop where
  ex : ∃ (f : Addr) (fd : FuncData), mg x = some (.ref f) ∧ PySem.W.keepIn K (.ref f) = true ∧ Binds K fd ps [] ∧ FnOk P w K mg base CX0 k f fd ps sp
theorem pe_fn {X : Cx} {x : Str} {ps : List Str} {k j : Nat} {sp : Sp} {e : Expr} {es : List Expr} {t : TA} {p pos : Pos} (F : Fnc X.prog X.w X.K X.mg X.base x ps j sp) (hr : Room k X.A) (hj : j ≤ k) (hg : Gl X x) (ha : PA X (e :: es) t)
    (hdb : (x == ("__debug__" : Str)) = false := by decide) (he : starEach (e :: es) X.env = (false, eval e X.env) :: starEach es X.env := by rfl) (hpl : (backTo pos (starEach es X.env)).any (·.1) = false := by rfl) :
    PE X (.Call (.Name x p) (e :: es) [] pos) (tCall sp [] E0 t) := by
  obtain ⟨f, fd, hm, hk, hb, F⟩ := F.ex
  exact pe_call F (hr.mono hj) hg hm hk hb .nil pass0 ha hdb he hpl
structure Df (K : PySem.W.Frag) (mg : Str → Option Value) (x : Str) (st : Stmt) : Prop where
  ex : ∃ (f : Addr) (fd : FuncData), mg x = some (.ref f) ∧ Fun K x x st f fd
theorem Df.ok {P : Program} {w : World} {K : PySem.W.Frag} {mg : Str → Option Value} {base : Heap} {x : Str} {st : Stmt} {N ps : List Str} {k : Nat} {sp : Sp} (D : Df K mg x st) (S : FnScope N ps (defScope st))
    (hb : ∀ (kV doc pm : Value) (an : Option Addr) (cdv ct : Value) (us : List Value), us.length = ps.length → bindArgs (PySem.W.fnOf x x (defArgs st) (defBody st) (defScope st) .none kV doc pm an cdv ct) ⟨us, []⟩ = pure (ps.zip us))
    (len : ∀ vs H Q E, sp vs H Q E → vs.length = ps.length)
    (hbody : ∀ (f : Addr) (cdv : Value) (A : Around) (outer : List Env) (s : Shared) (H : Hp) (vs : List V) (Q : VK) (E : XK), Room k (A.deeper (envOfC x (defScope st) s.heap.objs.size f cdv)) → sp vs H Q E →
      ∃ t, PSs (cxOf CX0 P w K mg base N x (defScope st) f cdv A outer s H E).nox (defBody st) t ∧ t { nx := fun _ H' => Q .non H', rt := Q } (start N vs) H) : Fnc P w K mg base x ps (k + 1) sp := by
  obtain ⟨f, fd, hm, F⟩ := D.ex
  exact ⟨f, fd, hm, F.kp, F.binds hb, F.ok S len fun cdv A outer s H vs Q E hr h => hbody f cdv A outer s H vs Q E hr h⟩

noncomputable def SameB (d : Addr) (H H' : Hp) : Prop := ∀ b o, b ≠ d → H b = some o → H' b = some o
theorem SameB.trans {d : Addr} {H H1 H2 : Hp} (a : SameB d H H1) (b : SameB d H1 H2) : SameB d H H2 := fun c o n h => b c o n (a c o n h)
theorem Same.b {d : Addr} {H H' : Hp} (a : Same H H') : SameB d H H' := fun b o _ h => a b o h
theorem Same.new {H : Hp} {a : Addr} {o : HO} (h : H a = none) : Same H (upd H a o) := fun b u e => by rw [upd_ne (ne_of_none e h)]; exact e
theorem SameB.upd {d : Addr} {H : Hp} {o : HO} : SameB d H (upd H d o) := fun b u n e => by rw [upd_ne n]; exact e
theorem Same.then {H H1 : Hp} {a : Addr} {o : HO} (s : Same H H1) (h : H1 a = none) : Same H (L2.upd H1 a o) := s.trans (Same.new h)

noncomputable def kS (x : Str) : Key := .inr x
noncomputable def fkv (c : Addr) (i l t : Int) : List (Key × V) := [(kS "cells", .ref c), (kS "at", .int i), (kS "left", .int l), (kS "turn", .int t)]
theorem n_ca : ¬ (kS "cells" = kS "at") := by decide +kernel
theorem n_cl : ¬ (kS "cells" = kS "left") := by decide +kernel
theorem n_ct : ¬ (kS "cells" = kS "turn") := by decide +kernel
theorem n_al : ¬ (kS "at" = kS "left") := by decide +kernel
theorem n_at : ¬ (kS "at" = kS "turn") := by decide +kernel
theorem n_lt : ¬ (kS "left" = kS "turn") := by decide +kernel
theorem valV_hit {κ : Type} [DecidableEq κ] {k : κ} {v : V} {r : List (κ × V)} : valV ((k, v) :: r) k = some v := by unfold valV; simp
theorem valV_skip {κ : Type} [DecidableEq κ] {k k' : κ} {v : V} {r : List (κ × V)} (h : ¬ k' = k) : valV ((k', v) :: r) k = valV r k := by unfold valV; simp [h]
theorem g_cells (c : Addr) (i l t : Int) : valV (fkv c i l t) (kS "cells") = some (.ref c) := valV_hit
theorem g_at (c : Addr) (i l t : Int) : valV (fkv c i l t) (kS "at") = some (.int i) := (valV_skip n_ca).trans valV_hit
theorem g_left (c : Addr) (i l t : Int) : valV (fkv c i l t) (kS "left") = some (.int l) := (valV_skip n_cl).trans ((valV_skip n_al).trans valV_hit)
theorem g_turn (c : Addr) (i l t : Int) : valV (fkv c i l t) (kS "turn") = some (.int t) := (valV_skip n_ct).trans ((valV_skip n_at).trans ((valV_skip n_lt).trans valV_hit))
theorem n_ta : ¬ (kS "turn" = kS "at") := fun e => n_at e.symm
theorem n_la : ¬ (kS "left" = kS "at") := fun e => n_al e.symm
theorem n_tl : ¬ (kS "turn" = kS "left") := fun e => n_lt e.symm
theorem p_at (c : Addr) (i l t z : Int) : putK (fkv c i l t) (kS "at") (.int z) = fkv c z l t := by simp [putK, fkv, n_ca, n_la, n_ta]
theorem p_left (c : Addr) (i l t z : Int) : putK (fkv c i l t) (kS "left") (.int z) = fkv c i z t := by simp [putK, fkv, n_cl, n_al, n_tl]
theorem p_turn (c : Addr) (i l t z : Int) : putK (fkv c i l t) (kS "turn") (.int z) = fkv c i l z := by simp [putK, fkv, n_ct, n_at, n_lt]
theorem fkv_len (c : Addr) (i l t : Int) : (fkv c i l t).length < sizeLine := by show 4 < sizeLine; decide
theorem m_fkv (c : Addr) (i l t : Int) : mergeK [] (fkv c i l t) = fkv c i l t := by simp [mergeK, putK, fkv, n_ca, n_cl, n_ct, n_al, n_at, n_lt]

structure Fd (H : Hp) (d : Addr) : Prop where
  ex : ∃ (c : Addr) (i l t : Int) (ns : List Int), H d = some (.dK (fkv c i l t)) ∧ H c = some (.lst (ns.map V.int)) ∧ ns ≠ [] ∧ ns.length ≤ 64
theorem Fd.same {H H' : Hp} {d : Addr} (F : Fd H d) (s : Same H H') : Fd H' d := by
  obtain ⟨c, i, l, t, ns, h1, h2, h3, h4⟩ := F.ex
  exact ⟨c, i, l, t, ns, s _ _ h1, s _ _ h2, h3, h4⟩
theorem Fd.new {H : Hp} {d a : Addr} {o : HO} (F : Fd H d) (h : H a = none) : Fd (upd H a o) d := F.same (Same.new h)
theorem Fd.ne {H : Hp} {d a : Addr} (F : Fd H d) (h : H a = none) : a ≠ d := by
  obtain ⟨c, i, l, t, ns, h1, h2, h3, h4⟩ := F.ex
  exact (ne_of_none h1 h).symm
theorem Fd.nl {H : Hp} {d a : Addr} {xs : List V} (F : Fd H d) (h : H a = some (.lst xs)) : a ≠ d := by
  obtain ⟨c, i, l, t, ns, h1, h2, h3, h4⟩ := F.ex
  exact ne_of h h1 (by intro z; cases z)
noncomputable def spDraw : Sp := fun vs H Q _ => ∃ (d : Addr) (m : Int), vs = [.ref d, .int m] ∧ Fd H d ∧ 0 < m ∧ m < 1000000 ∧ ∀ (r : Int) (H' : Hp), 0 ≤ r → r < m → Fd H' d → SameB d H H' → Q (.int r) H'
noncomputable def spFeed (K : PySem.W.Frag) : Sp := fun vs H Q _ => ∃ (a : Addr) (ns : List Int), vs = [.ref a] ∧ SqL K H a (ns.map V.int) ∧ ns.length ≤ 63 ∧ ∀ (d : Addr) (H' : Hp), H d = none → Fd H' d → Same H H' → Q (.ref d) H'
theorem cell_at {ns : List Int} (h : ns ≠ []) (i : Int) : ∃ n : Int, atI (ns.map V.int) (i % ((ns.map V.int).length : Int)) = some (.int n) := by
  have hl : 0 < ns.length := List.length_pos_iff.mpr h
  rw [List.length_map]
  have h0 := Int.emod_nonneg i (show (ns.length : Int) ≠ 0 by omega)
  have h1 := Int.emod_lt_of_pos i (show (0 : Int) < ns.length by omega)
  obtain ⟨k, hk⟩ := Int.eq_ofNat_of_zero_le h0
  rw [hk] at h1 ⊢
  have hk' : k < ns.length := by omega
  refine ⟨ns[k], ?_⟩
  unfold atI ixN
  rw [if_pos (by omega), if_pos (by rw [List.length_map]; omega)]
  show (ns.map V.int)[((k : Nat) : Int).toNat]? = _
  rw [Int.toNat_natCast, List.getElem?_map, List.getElem?_eq_getElem hk']
  rfl
end L2
set_option Elab.async false
set_option linter.all false
set_option maxRecDepth 100000
namespace L2
open PySem PySem.Spec PyProof.Rows Wd
mutual
inductive Dt (H : Hp) : V → PyData → Prop where
  | non : Dt H .non .none
  | bl (b : Bool) : Dt H (.bl b) (.bool b)
  | int (i : Int) : Dt H (.int i) (.int i)
  | str (x : Str) : Dt H (.str x) (.str x)
  | lst {a : Addr} {xs : List V} {ds : List PyData} : H a = some (.lst xs) → Dts H xs ds → Dt H (.ref a) (.list ds)
  | tup {a : Addr} {xs : List V} {ds : List PyData} : H a = some (.tup xs) → Dts H xs ds → Dt H (.ref a) (.tuple ds)
inductive Dts (H : Hp) : List V → List PyData → Prop where
  | nil : Dts H [] []
  | cons {v : V} {d : PyData} {vs : List V} {ds : List PyData} : Dt H v d → Dts H vs ds → Dts H (v :: vs) (d :: ds)
end
section
variable {P : Program} {w : World} {H : Hp} {h : Heap}
mutual
theorem Dt.reads (ok : HOk P w H h) : ∀ {v : V} {d : PyData}, Dt H v d → ∀ {u : Value}, RelV v u → ∃ as, Reads h u d as
  | _, _, .non, u, r => by cases r; exact ⟨_, .none⟩
  | _, _, .bl b, u, r => by cases r; exact ⟨_, .bool b⟩
  | _, _, .int i, u, r => by obtain ⟨t, rfl⟩ := r; exact ⟨_, .int i t⟩
  | _, _, .str x, u, r => by obtain ⟨t, rfl⟩ := r; exact ⟨_, .str x t⟩
  | _, _, .lst e q, u, r => by
    cases r
    obtain ⟨_, its, n, rv, g⟩ := ok _ _ e
    obtain ⟨as, ra⟩ := Dts.reads ok q rv
    exact ⟨_, .list g rfl rfl (by simpa using ra)⟩
  | _, _, .tup e q, u, r => by
    cases r
    obtain ⟨_, its, rv, ob, g, c, n, d⟩ := ok _ _ e
    obtain ⟨as, ra⟩ := Dts.reads ok q rv
    exact ⟨_, .tuple g c d (by simpa using ra)⟩
theorem Dts.reads (ok : HOk P w H h) : ∀ {vs : List V} {ds : List PyData}, Dts H vs ds → ∀ {us : List Value}, Vals vs us → ∃ as, ReadsAll h us ds as
  | _, _, .nil, _, r => by cases r; exact ⟨_, .nil⟩
  | _, _, .cons q qs, _, r => by
    cases r with
    | cons r rs =>
      obtain ⟨as, a1⟩ := Dt.reads ok q r
      obtain ⟨bs, a2⟩ := Dts.reads ok qs rs
      exact ⟨_, .cons a1 a2⟩
end
end
structure Sh (d : PyData) : Prop where
  sh : d.showable = true
  nd : d.hasDict = false
  dp : d.depth ≤ 10
  sz : d.shown.length ≤ sizeLine
section
variable {X : Cx}
theorem call_repr_dat (hg : X.A.guards = some []) (hu : X.A.units + 64 < cLine) : CallR X (.builtin "repr") (fun xs H Q => ∃ a d, xs = [.ref a] ∧ Dt H (.ref a) d ∧ Sh d ∧ Q (.str d.shown) H) := by
  intro pins s σ H xs us Q I r h
  obtain ⟨a, d, rfl, q, S, hQ⟩ := h
  obtain ⟨u, rfl, ru⟩ := vals1 r
  cases ru
  obtain ⟨as, rd⟩ := q.reads I.hok (u := .ref a) rfl
  refine repr_of_reads' rd S.sh (PyData.noDict_hsm S.nd) hg (by have := S.dp; omega) (fun _ _ e => e) (fun h' u tk hk => ?_) S.sz
  exact ⟨.str _, H, I.kept hk, ⟨_, rfl⟩, hQ⟩
end
section
variable {X : Cx}
end
end L2
set_option Elab.async false
set_option linter.all false
set_option maxRecDepth 100000
set_option maxHeartbeats 0
namespace Kx
open PySem PySem.Spec PyProof.Rows L2 Wd
theorem b_list : bootBuiltins "list" = some (.type "list") := by kernel_rfl
theorem b_int : bootBuiltins "int" = some (.type "int") := by kernel_rfl
theorem b_repr : bootBuiltins "repr" = some (.builtin "repr") := by kernel_rfl
theorem b_tuple : bootBuiltins "tuple" = some (.type "tuple") := by kernel_rfl
theorem b_isinstance : bootBuiltins "isinstance" = some (.builtin "isinstance") := by kernel_rfl
theorem b_all : bootBuiltins "all" = some (.builtin "all") := by kernel_rfl
theorem b_str : bootBuiltins "str" = some (.type "str") := by kernel_rfl
theorem b_zip : bootBuiltins "zip" = some (.type "zip") := by kernel_rfl
structure Bt (K : PySem.W.Frag) (w : World) (mg : Str → Option Value) (aB : Addr) : Prop where
  len : mg "len" = none
  repr : mg "repr" = none
  abs : mg "abs" = none
  max : mg "max" = none
  int : mg "int" = none
  list : mg "list" = none
  range : mg "range" = none
  reversed : mg "reversed" = none
  min : mg "min" = none
  sorted : mg "sorted" = none
  tuple : mg "tuple" = none
  isinstance : mg "isinstance" = none
  all : mg "all" = none
  str : mg "str" = none
  zip : mg "zip" = none
  mgB : mg "BACKS" = some (.ref aB)
  dB : DTx K w aB
  gB : ∀ x : L, ∃ t, PySem.W.nsIn K aB (toS [x]) = some (some (.str (toS [inv x]) t))
theorem dg {H : Hp} {d : Addr} {kvs : List (Key × V)} {k : Str} {v : V} (h : H d = some (.dK kvs)) (e : valV kvs (kS k) = some v) : DGet H d (.str k) (some v) := by
  have q := DGet.k (k := kS k) h
  rw [e] at q
  exact q
theorem dp {H : Hp} {d : Addr} {kvs kvs' : List (Key × V)} {k : Str} {v : V} (h : H d = some (.dK kvs)) (hl : kvs.length < sizeLine) (e : putK kvs (kS k) v = kvs') : DPut H d (.str k) v (upd H d (.dK kvs')) := by
  have q := DPut.k (k := kS k) (v := v) h hl
  rw [e] at q
  exact q
theorem cut63 {ns : List Int} (h : ns.length ≤ 63) : cutV (ns.map V.int) none (some 63) = ns.map V.int := by
  unfold cutV
  have e : HT.sIx (ns.map V.int).length (ns.map V.int).length (some 63) = (ns.map V.int).length := by
    have := HT.sIx_nat (ns.map V.int).length (ns.map V.int).length 63
    rw [show ((63 : Nat) : Int) = 63 from rfl] at this
    rw [this, List.length_map]
    omega
  rw [e, HT.sIx_none, List.drop_zero, Nat.sub_zero, List.take_length]
theorem line16 : sizeLine = 16777216 := sizeLine_eq
noncomputable def sg (m : Int) : List L := ([0, 1, 2, 3, 4, 5] : List L).take m.toNat ++ ([6, 7, 8, 9, 10, 11] : List L).take m.toNat
theorem iteC {c : Bool} {A B : Prop} (hc : c = true) (h : A) : if c = true then A else B := by rw [if_pos hc]; exact h
theorem iteD {c : Bool} {A B : Prop} (hc : c = false) (h : B) : if c = true then A else B := by rw [hc]; exact iteF h
end Kx
set_option Elab.async false
set_option linter.all false
set_option maxRecDepth 100000
namespace L2
open PySem PySem.Spec PyProof.Rows Wd
section
variable {X : Cx} {tg : Expr}
end

section
variable {X : Cx} {o e : Expr} {es : List Expr} {to : TE} {t : TA} {name : Str} {apos cpos : Pos} {T id : String} {r : V → List V → Hp → VK → Prop} {K : PySem.W.Frag}
end

end L2
set_option Elab.async false
set_option linter.all false
set_option maxRecDepth 100000
namespace L2
open PySem PySem.Spec PyProof.Rows Wd
theorem bools_at : ∀ {bs : List Bool} {us : List Value} {i : Nat} {v : Value}, Vals (bs.map V.bl) us → us[i]? = some v → ∃ b, bs[i]? = some b ∧ v = .bool b
  | [], us, i, v, r, h => by
    rw [List.map_nil] at r
    cases r
    simp at h
  | b :: bs, us, i, v, r, h => by
    rw [List.map_cons] at r
    cases r with
    | cons r1 r2 =>
      cases i with
      | zero =>
        simp at h
        subst h
        exact ⟨b, rfl, r1⟩
      | succ i =>
        obtain ⟨b', e1, e2⟩ := bools_at (i := i) r2 (by simpa using h)
        exact ⟨b', by simpa using e1, e2⟩
theorem all_getD : ∀ bs : List Bool, ((List.range bs.length).all fun i => bs.getD i true) = bs.all id
  | [] => rfl
  | b :: bs => by
    rw [List.length_cons, List.range_succ_eq_map, List.all_cons, List.all_map, List.all_cons]
    have ih := all_getD bs
    show (b && (List.range bs.length).all fun i => (b :: bs).getD (i + 1) true) = _
    have e : (fun i => (b :: bs).getD (i + 1) true) = fun i => bs.getD i true := by funext i; simp
    rw [e, ih]
    rfl
section
variable {X : Cx}
noncomputable def rEqNil : R2 := fun x y H Q => ∃ a b xs, x = .ref a ∧ y = .ref b ∧ H a = some (.lst xs) ∧ H b = some (.lst []) ∧ Q (.bl xs.isEmpty) H
theorem op_eq_nil (hu : X.A.units + 64 < cLine) : OpR X (compareOp .Eq) rEqNil := by
  intro pins s σ H x y v u Q I rx ry h
  obtain ⟨a, b, xs, rfl, rfl, ha, hb, q⟩ := h
  cases rx
  cases ry
  obtain ⟨its, n, rv, ea, _⟩ := I.lst ha
  obtain ⟨its2, n2, rv2, eb, _⟩ := I.lst hb
  cases rv2
  have hla : s.heap.IsList a its.toArray := ⟨_, ea, rfl, _, rfl⟩
  have hlb : s.heap.IsList b ([] : List Value).toArray := ⟨_, eb, rfl, _, rfl⟩
  cases xs with
  | nil =>
    cases rv
    refine EqBoolInt.of_rc (SeqAt.RcAt.lists (e := fun _ => true) hla hlb rfl (by omega) (fun j hj => by simp at hj)) ?_
    exact ⟨.bl true, H, I, rfl, q⟩
  | cons z r =>
    cases rv with
    | cons r1 r2 =>
      refine EqBoolInt.of_rc (SeqAt.RcAt.lists_lengths hla hlb (by simp) (by omega)) ?_
      exact ⟨.bl false, H, I, rfl, q⟩
noncomputable def rAll (K : PySem.W.Frag) : List V → Hp → VK → Prop := fun xs H Q => ∃ (l : Addr) (bs : List Bool), xs = [.ref l] ∧ SqL K H l (bs.map V.bl) ∧ Q (.bl (bs.all id)) H
theorem call_all_bools (hc : X.calm = true) : CallR X (.builtin "all") (rAll X.K) := by
  intro pins s σ H xs us Q I r h
  obtain ⟨l, bs, rfl, hq, q⟩ := h
  obtain ⟨u, rfl, ru⟩ := vals1 r
  cases ru
  obtain ⟨its, rv, pl, _⟩ := I.list hq
  have hl := pl.isList
  have hlen : its.length = bs.length := by rw [← rv.length, List.length_map]
  have hlt : l < s.heap.objs.size := by obtain ⟨_, e, _⟩ := hl; exact Heap.lt_size e
  refine call_all_walk (wpAny_pyIter_list hl ?_)
  refine ⟨_, _, _, _, _, _, fun i => bs.getD i true, rfl, Walks.list (A := X.A.in1) (I.ok.hd hc) _ l (Nat.ne_of_lt hlt) its.toArray, ⟨⟨_, Heap.get?_push_size _ rfl, rfl, rfl⟩, hl.push _⟩, ?_, fun h' tk hk => ?_⟩
  · intro i v s' Q' E' hP hQ'
    have hP : its[i]? = some v := by simpa using hP
    obtain ⟨b, hb, e⟩ := bools_at rv hP
    subst e
    have : bs.getD i true = b := by rw [List.getD_eq_getElem?_getD, hb]; rfl
    have hQ' : Q' (bs.getD i true) s' := hQ'
    rw [this] at hQ'
    exact wpAny_truthy_bool hQ'
  · have old : ∀ b o, s.heap.get? b = some o → h'.get? b = some o := fun b o e => hk b o (fun z => by rw [List.mem_singleton.mp z] at e; exact absurd (Heap.lt_size e) (Nat.lt_irrefl _)) (Heap.get?_push_of_some _ e)
    refine ⟨.bl _, H, I.kept old, rfl, ?_⟩
    have e : ((List.range its.toArray.size).all fun i => bs.getD i true) = bs.all id := by
      rw [List.size_toArray, hlen]
      exact all_getD bs
    rw [e]
    exact q
theorem call_isinst : CallR X (.builtin "isinstance") (fun xs H Q => ∃ x t b n, xs = [x, .ty n] ∧ TyOf X.K H x t ∧ PySem.W.kitOne X.K t (.type n) = some b ∧ Q (.bl b) H) := by
  intro pins s σ H xs us Q I r h
  obtain ⟨x, t, b, n, rfl, ty, e, q⟩ := h
  obtain ⟨u, u2, rfl, rx, r2⟩ := vals2 r
  cases r2
  exact isinst_ok I rx ty e fun tk => ⟨.bl b, H, I.tok _, rfl, q⟩
noncomputable def tKIn (K : PySem.W.Frag) (a : Addr) (to : TE) : TE := fun σ H Q => to σ H fun y H1 => ∃ (z : Str) (r : Option Value), y = .str z ∧ PySem.W.nsIn K a z = some r ∧ Q (.bl r.isSome) H1
theorem pe_kin {K : PySem.W.Frag} {w : World} {a : Addr} {x : Str} {o : Expr} {to : TE} {p pos : Pos} (D : DTx K w a) (hK : X.K = K) (hw : X.w = w) (hlo : (a == sysModules) = false) (hg : Gl X x) (hm : X.mg x = some (.ref a)) (ho : PE X o to)
    (hd : (x == ("__debug__" : Str)) = false := by decide) : PE X (.Compare o [.In] [.Name x p] pos) (tKIn K a to) := by
  subst hK hw
  intro pins s σ H Q I h
  refine wpAny_Compare1 (thn (ho pins s σ H _ I h) fun v s1 ⟨y, H1, I1, ry, z, r, e1, e2, q⟩ => ld_glob I1 hg hm ?_ hd) rfl
  subst e1
  obtain ⟨t, rfl⟩ := ry
  obtain ⟨es, n, hl, hk⟩ := D.ob
  obtain ⟨m, F⟩ := I1.fr
  exact PySem.W.topIn_K F I1.ok.mod.kin hl hk e2 hlo ⟨.bl _, H1, I1.tok _, rfl, q⟩
noncomputable def rIndex : V → List V → Hp → VK → Prop := fun x vs H Q => ∃ z y i rest, x = .str z ∧ vs = [.str y] ∧ Builtin.Str.occurrences z y 0 z.length 1 = i :: rest ∧ Q (.int (i : Nat)) H
theorem mt_index : MtR X "str.index" rIndex := by
  intro pins s σ H x vs v us Q I rx rv h
  obtain ⟨z, y, i, rest, rfl, rfl, ho, q⟩ := h
  obtain ⟨t, rfl⟩ := rx
  obtain ⟨u1, rfl, ⟨t1, rfl⟩⟩ := vals1 rv
  exact SC.index ho ⟨.int _, H, I.tok _, ⟨_, rfl⟩, q⟩
noncomputable def signs (z : Str) : List V := z.cps.toList.map fun c => .str ⟨#[c]⟩
theorem vals_signs {z : Str} {acc : Array Value} (h : ItemsOf (SignAt z) acc z.cps.size) : Vals (signs z) acc.toList := by
  have all : ∀ (cs : List Nat) (us : List Value), cs.length = us.length → (∀ (j : Nat) (v : Value), us[j]? = some v → ∃ c u, cs[j]? = some c ∧ v = .str ⟨#[c]⟩ u) → Vals (cs.map fun c => V.str ⟨#[c]⟩) us := by
    intro cs
    induction cs with
    | nil =>
      intro us hl _
      cases us with
      | nil => exact .nil
      | cons _ _ => simp at hl
    | cons c cs ih =>
      intro us hl hh
      cases us with
      | nil => simp at hl
      | cons u us =>
        obtain ⟨c', t, e1, e2⟩ := hh 0 u rfl
        have : c = c' := Option.some.inj e1
        subst this
        exact .cons ⟨t, e2⟩ (ih us (by simpa using hl) fun j v hj => hh (j + 1) v (by simpa using hj))
  refine all _ _ (by rw [Array.length_toList, Array.length_toList]; exact h.1.symm) fun j v hj => ?_
  obtain ⟨c, u, e1, e2⟩ := h.2 j v (by simpa using hj)
  exact ⟨c, u, by simpa using e1, e2⟩
theorem call_list_signs (hc : X.calm = true) : CallR X (.type "list") (fun xs H Q => ∃ z, xs = [.str z] ∧ z.length ≤ sizeLine ∧ ∀ p, H p = none → Q (.ref p) (upd H p (.lst (signs z)))) := by
  intro pins s σ H xs us Q I r h
  obtain ⟨z, rfl, hz, q⟩ := h
  obtain ⟨u, rfl, t, rfl⟩ := vals1 r
  refine call_list_str (I.ok.hd hc) z t (fun h' tk acc' c' kp e hI => ?_) hz
  have hl : (signs z).length ≤ sizeLine := by unfold signs; rw [List.length_map, Array.length_toList]; exact hz
  exact ⟨.ref s.heap.objs.size, _, I.laid kp (Nat.le_refl _) (show ObjOk X.prog X.w _ h' _ (.lst (signs z)) from ⟨hl, acc'.toList, c', vals_signs hI, by simpa using e⟩), rfl, q _ (I.hok.fresh (Nat.le_refl _))⟩
theorem op_notIn_K {K : PySem.W.Frag} (hK : X.K = K) : OpR X (compareOp .NotIn) (rIn K true) := by
  subst hK
  exact op_notIn_seq
end
end L2
set_option Elab.async false
set_option linter.all false
set_option maxRecDepth 100000
namespace PySem
open Sem (wp)
structure Ap5 (z TI TO i1 i2 : Addr) : Prop where
  TIz : TI ≠ z
  TOz : TO ≠ z
  i1z : i1 ≠ z
  i2z : i2 ≠ z
  TITO : TI ≠ TO
  TIi1 : TI ≠ i1
  TIi2 : TI ≠ i2
  TOi1 : TO ≠ i1
  TOi2 : TO ≠ i2
  i12 : i1 ≠ i2
section
variable {prog : Program} {w : World} {A : Around} {E : Value → Shared → Prop} {s : Shared} {z TI TO i1 i2 : Addr} {x y : Str} {t u : Tok} {k c d : Nat} {a b : Value}
end
end PySem
set_option Elab.async false
set_option linter.all false
set_option maxRecDepth 100000
namespace PySem
end PySem
namespace L2
open PySem PySem.Spec PyProof.Rows
theorem Inv.stepT {X : Cx} {pins : List (Addr × Obj)} {σ : St} {H : Hp} {s : Shared} {h' : Heap} {t' : Nat} {ch : List Addr} {T : Addr} {xs : List V} {its : List Value} (I : Inv X pins σ H s) (hf : ∀ b ∈ ch, FpOk X pins H b)
    (k : ∀ b o, b ∉ ch → s.heap.get? b = some o → h'.get? b = some o) (hT : s.heap.objs.size ≤ T) (hz : xs.length ≤ sizeLine) (rv : Vals xs its) (ht : IsTup h' T its.toArray) (there : ∀ b ∈ ch, ∃ o, s.heap.get? b = some o) : Inv X pins σ (upd H T (.tup xs)) { s with heap := h', toks := t' } := by
  have hn : H T = none := I.hok.fresh hT
  have ne : ∀ {b o}, s.heap.get? b = some o → b ≠ T := fun e => Nat.ne_of_lt (Nat.lt_of_lt_of_le (Heap.lt_size e) hT)
  have nch : ∀ {b u}, H b = some u → b ∉ ch := fun e z => by rw [(hf _ z).1] at e; cases e
  refine I.step (g' := s.gens) (d' := s.drawn) (ch := ch) (fun b hb => ?_) (fun b o _ _ hc e _ => k b o hc e) (fun b o _ _ hc e _ => ⟨o.slots, k b o hc e⟩) (fun b o _ e n => by rw [upd_ne (ne e)]; exact n) (fun b o hc e => ⟨o, k b o hc e⟩)
    (fun b ys e => by rw [upd_ne (ne_of_none e hn)]; exact e) (fun b o u e => by rw [upd_ne (ne_of_none e hn)]; exact e) (fun b ps e => ⟨#[], by rw [upd_ne (ne_of_none e hn), e]; simp⟩) (fun m hm => ?_) (fun b u e => ?_) I.bare
  · obtain ⟨_, f1, _, f3, f4, f5⟩ := hf b hb
    exact ⟨f3, f1, f4, f5⟩
  · obtain ⟨o, es, ep, ho, r⟩ := hm
    exact ⟨o, es, ep, k _ o (fun z => (hf _ z).2.1 rfl) ho, r⟩
  · by_cases hb : b = T
    · subst hb
      rw [upd_same] at e
      cases e
      exact ⟨hz, its, rv, ht⟩
    · rw [upd_ne hb] at e
      refine (I.hok b u e).stay (fun c v hc q => k c v ?_ q) (fun c q => by rw [upd_ne (ne_of_none q hn)]; exact q) fun c ys q => by rw [upd_ne (ne_of_none q hn)]; exact q
      rcases hc with z | z
      · rw [z]; exact nch e
      · exact nch z
section
variable {X : Cx}
theorem ap5_mk (n : Nat) : Ap5 (n + 4) (n + 2) (n + 3) n (n + 1) := by
  constructor <;> (intro h; have h : (_ : Nat) = _ := h; omega)
end
end L2
set_option Elab.async false
set_option linter.all false
set_option maxRecDepth 100000
set_option maxHeartbeats 0
namespace L2
open PySem PySem.Spec PyProof.Rows Wd
noncomputable def notStar : Expr → Bool
  | .Starred _ _ => false
  | _ => true
theorem star_of {e : Expr} (h : notStar e = true) (es : List Expr) (env : Env) : starEach (e :: es) env = (false, eval e env) :: starEach es env := by
  cases e <;> first | rfl | cases h
theorem pa_c {X : Cx} {e : Expr} {es : List Expr} {te : TE} {t : TA} (ha : PE X e te) (hr : PA X es t) (h : notStar e = true := by rfl) : PA X (e :: es) (tCons te t) := pa_cons ha hr (star_of h _ _)
noncomputable def litE : Expr → Option V
  | .Constant .none _ _ => some .non
  | .Constant (.bool b) _ _ => some (.bl b)
  | .Constant (.int i) _ _ => some (.int i)
  | .Constant (.str x) _ _ => some (.str x)
  | .BinOp (.Constant (.int i) _ _) .Pow (.Constant (.int j) _ _) _ => if 0 ≤ j ∧ j ≤ 1000000 ∧ i.natAbs < 2 ^ 64 then some (.int (i ^ j.toNat)) else none
  | _ => none
noncomputable def litEs : List Expr → Option (List V)
  | [] => some []
  | e :: r => match litE e, litEs r with
    | some v, some vs => some (v :: vs)
    | _, _ => none
theorem pe_lit {X : Cx} {e : Expr} {v : V} (h : litE e = some v) : PE X e (tC v) ∧ notStar e = true := by
  unfold litE at h
  split at h
  · cases h; exact ⟨pe_non, rfl⟩
  · cases h; exact ⟨pe_bl, rfl⟩
  · cases h; exact ⟨pe_int, rfl⟩
  · cases h; exact ⟨pe_str, rfl⟩
  · rename_i i _ _ j _ _ _
    split at h
    · rename_i c
      cases h
      refine ⟨fun pins s σ H Q I h => pe_op op_pow pe_int pe_int pins s σ H Q I ⟨_, _, rfl, rfl, c, h⟩, rfl⟩
    · cases h
  · cases h
theorem pa_lits {X : Cx} : ∀ {es : List Expr} {vs : List V}, litEs es = some vs → PA X es (fun _ H Q => Q vs H)
  | [], vs, h => by
    cases h
    exact pa_nil
  | e :: r, vs, h => by
    unfold litEs at h
    split at h
    · rename_i v vs' h1 h2
      cases h
      exact pa_cons (pe_lit h1).1 (pa_lits h2) (star_of (pe_lit (X := X) h1).2 _ _)
    · cases h
theorem call_isK {X : Cx} {K : PySem.W.Frag} (hK : X.K = K) : CallR X (.builtin "isinstance") (fun xs H Q => ∃ x t b n, xs = [x, .ty n] ∧ TyOf K H x t ∧ PySem.W.kitOne K t (.type n) = some b ∧ Q (.bl b) H) := by
  subst hK
  exact call_isinst
noncomputable def ltr (c : Nat) : Option L := ([0, 1, 2, 3, 4, 5, 6, 7, 8, 9, 10, 11] : List L).find? fun x => cp x == c
theorem ltr_cp : ∀ x : L, ltr (cp x) = some x := by decide
theorem ltr_some {c : Nat} {x : L} (h : ltr c = some x) : cp x = c := by
  have := List.find?_some h
  simpa using this
noncomputable def isLet (z : Str) : Bool := match z.cps.toList with
  | [c] => (ltr c).isSome
  | _ => false
noncomputable def okC (m : Int) (c : Nat) : Bool := match ltr c with
  | some x => decide (((x.val % 6 : Nat) : Int) < m)
  | none => false
noncomputable def isW (m : Int) (z : Str) : Bool := z.cps.toList.all (okC m)
theorem kit_str {K : PySem.W.Frag} : PySem.W.kitOne K (.type "str") (.type "str") = some true := by unfold PySem.W.kitOne; rw [if_pos (by rfl)]
structure Bk (K : PySem.W.Frag) (a : Addr) : Prop where
  lo : (a == sysModules) = false
  all : ∀ z : Str, ∃ r, PySem.W.nsIn K a z = some r ∧ r.isSome = isLet z
noncomputable def keyT (e : DictEntry) : Str := match e.key with
  | .str x _ => x
  | _ => ""
noncomputable def letters : List Str := ([0, 1, 2, 3, 4, 5, 6, 7, 8, 9, 10, 11] : List L).map fun x => toS [x]
theorem mem12 : ∀ x : L, x ∈ ([0, 1, 2, 3, 4, 5, 6, 7, 8, 9, 10, 11] : List L) := by decide
theorem isLet_of (z : Str) : isLet z = letters.any (fun y => y == z) := by
  have key : ∀ c : Nat, (ltr c).isSome = letters.any (fun y => y == (⟨#[c]⟩ : Str)) := by
    intro c
    rw [Bool.eq_iff_iff]
    constructor
    · intro h
      obtain ⟨x, hx⟩ := Option.isSome_iff_exists.mp h
      have e := ltr_some hx
      rw [List.any_eq_true]
      refine ⟨toS [x], List.mem_map.mpr ⟨x, mem12 x, rfl⟩, ?_⟩
      rw [← e]
      exact beq_iff_eq.mpr rfl
    · intro h
      obtain ⟨y, hy, e⟩ := List.any_eq_true.mp h
      obtain ⟨x, _, rfl⟩ := List.mem_map.mp hy
      have e := beq_iff_eq.mp e
      have e2 : [cp x] = [c] := congrArg (fun s : Str => s.cps.toList) e
      have e3 : cp x = c := by simpa using e2
      rw [← e3, ltr_cp]
      rfl
  obtain ⟨⟨l⟩⟩ := z
  match l with
  | [c] => exact key c
  | [] =>
    symm
    show _ = false
    rw [List.any_eq_false]
    intro y hy e
    obtain ⟨x, _, rfl⟩ := List.mem_map.mp hy
    have e := congrArg (fun s : Str => s.cps.toList.length) (beq_iff_eq.mp e)
    cases e
  | a :: b :: r =>
    symm
    show _ = false
    rw [List.any_eq_false]
    intro y hy e
    obtain ⟨x, _, rfl⟩ := List.mem_map.mp hy
    have e := congrArg (fun s : Str => s.cps.toList.length) (beq_iff_eq.mp e)
    cases e
theorem bk_mk {K : PySem.W.Frag} {w : World} {a : Addr} {es : Array DictEntry} {n : Nat} (lo : (a == sysModules) = false) (hl : K.lookup a = some ⟨.type "dict", none, .dict es n, #[]⟩) (hk : PySem.W.KeysLit w.params es.toList) (hn : es.toList.map keyT = letters) : Bk K a := by
  refine ⟨lo, fun z => ?_⟩
  have hs : ∀ e ∈ es.toList, e.key.isStr z = (keyT e == z) ∧ e.refKey = false := by
    intro e he
    obtain ⟨x, t, e1, _⟩ := hk.all e he
    unfold keyT DictEntry.refKey
    rw [e1]
    exact ⟨rfl, rfl⟩
  have ha : es.toList.any (fun e => e.key.isStr z) = isLet z := by
    rw [isLet_of, ← hn, List.any_map]
    rw [Bool.eq_iff_iff, List.any_eq_true, List.any_eq_true]
    constructor
    · rintro ⟨e, he, q⟩
      exact ⟨e, he, by rw [(hs e he).1] at q; exact q⟩
    · rintro ⟨e, he, q⟩
      exact ⟨e, he, by rw [(hs e he).1]; exact q⟩
  have hr : es.toList.any (fun e => e.refKey) = false := by
    rw [List.any_eq_false]
    intro e he
    rw [(hs e he).2]
    decide
  unfold PySem.W.nsIn
  rw [hl]
  dsimp only
  cases hf : es.toList.find? (fun e => e.key.isStr z) with
  | some e =>
    refine ⟨some e.val, rfl, ?_⟩
    rw [← ha]
    symm
    exact List.any_eq_true.mpr ⟨e, List.mem_of_find?_eq_some hf, by have := List.find?_some hf; exact this⟩
  | none =>
    refine ⟨none, ?_, ?_⟩
    · dsimp only
      rw [hr]
      rfl
    · rw [← ha]
      symm
      show _ = false
      rw [List.any_eq_false]
      intro e he q
      exact List.find?_eq_none.mp hf e he q
end L2
namespace Kx
open PySem PySem.Spec PyProof.Rows L2 Wd
noncomputable def spNum : Sp := fun vs H Q _ => ∃ x : L, vs = [tx [x]] ∧ Q (.int ((x.val % 6 : Nat) : Int)) H
theorem num_at : ∀ x : L, Builtin.Str.occurrences ("abcdef" : Str) (Txt.lower (toS [x])) 0 ("abcdef" : Str).length 1 = [x.val % 6] := by
  have q : ∀ x : L, Builtin.Str.occurrences ("abcdef" : Str) (⟨(([x].map cp).map lo1).toArray⟩ : Str) 0 ("abcdef" : Str).length 1 = [x.val % 6] := by decide +kernel
  intro x
  rw [lower_toS]
  exact q x
theorem one_ok (m : Int) (x : L) : okC m (cp x) = decide (((x.val % 6 : Nat) : Int) < m) := by unfold okC; rw [ltr_cp]
theorem isLet_ltr {c : Nat} (h : (ltr c).isSome = true) : ∃ x : L, (⟨#[c]⟩ : Str) = toS [x] ∧ c = cp x := by
  obtain ⟨x, hx⟩ := Option.isSome_iff_exists.mp h
  exact ⟨x, by rw [← ltr_some hx]; rfl, (ltr_some hx).symm⟩
theorem not_ok {m : Int} {c : Nat} (h : (ltr c).isSome = false) : okC m c = false := by
  unfold okC
  cases e : ltr c with
  | none => rfl
  | some x => rw [e] at h; cases h
theorem in_sg {m : Int} (h1 : 1 ≤ m) (h2 : m ≤ 6) (c : Nat) : inV (.str ⟨#[c]⟩) (L2.signs (toS (sg m))) = okC m c := by
  have e : L2.signs (toS (sg m)) = (sg m).map fun x => V.str (toS [x]) := by
    unfold L2.signs
    rw [toS_cps, List.map_map]
    rfl
  rw [e]
  unfold inV
  rw [List.any_map]
  have s : ((fun y => eqV y (.str ⟨#[c]⟩)) ∘ fun x => V.str (toS [x])) = fun x : L => decide (cp x = c) := by
    funext x
    show ((toS [x]) == (⟨#[c]⟩ : Str)) = _
    rw [Bool.eq_iff_iff, beq_iff_eq, decide_eq_true_iff]
    constructor
    · intro q
      have q : [cp x] = [c] := congrArg (fun s : Str => s.cps.toList) q
      simpa using q
    · rintro rfl
      rfl
  rw [s]
  have hm : m = 1 ∨ m = 2 ∨ m = 3 ∨ m = 4 ∨ m = 5 ∨ m = 6 := by omega
  cases hc : ltr c with
  | some x =>
    have ex := ltr_some hc
    subst ex
    rw [one_ok]
    rcases hm with rfl | rfl | rfl | rfl | rfl | rfl <;> (clear s hc; revert x; decide)
  | none =>
    rw [not_ok (by rw [hc]; rfl), List.any_eq_false]
    intro x _ q
    have q : cp x = c := of_decide_eq_true q
    rw [← q, ltr_cp] at hc
    cases hc
theorem flat_signs (z : Str) : (L2.signs z).all flatV = true := by
  rw [List.all_eq_true]
  intro v hv
  obtain ⟨c, _, rfl⟩ := List.mem_map.mp hv
  rfl
end Kx
set_option Elab.async false
set_option linter.all false
set_option maxRecDepth 100000
set_option maxHeartbeats 0
namespace L2
open PySem PySem.Spec PyProof.Rows Wd
section
variable {X : Cx}
noncomputable def rNeNil : R2 := fun x y H Q => ∃ a b xs, x = .ref a ∧ y = .ref b ∧ H a = some (.lst xs) ∧ H b = some (.lst []) ∧ Q (.bl (!xs.isEmpty)) H
theorem op_ne_nil (hu : X.A.units + 64 < cLine) : OpR X (compareOp .NotEq) rNeNil := by
  intro pins s σ H x y v u Q I rx ry h
  obtain ⟨a, b, xs, rfl, rfl, ha, hb, q⟩ := h
  cases rx
  cases ry
  obtain ⟨its, n, rv, ea, _⟩ := I.lst ha
  obtain ⟨its2, n2, rv2, eb, _⟩ := I.lst hb
  cases rv2
  have hla : s.heap.IsList a its.toArray := ⟨_, ea, rfl, _, rfl⟩
  have hlb : s.heap.IsList b ([] : List Value).toArray := ⟨_, eb, rfl, _, rfl⟩
  cases xs with
  | nil =>
    cases rv
    refine EqBoolInt.of_rcne (SeqAt.RcNeAt.lists (e := fun _ => true) hla hlb rfl (by omega) (fun j hj => by simp at hj)) ?_
    exact ⟨.bl false, H, I, rfl, q⟩
  | cons z r =>
    cases rv with
    | cons r1 r2 =>
      refine EqBoolInt.of_rcne (SeqAt.RcNeAt.lists_lengths hla hlb (by simp) (by omega)) ?_
      exact ⟨.bl true, H, I, rfl, q⟩
end
end L2
namespace Kx
open PySem PySem.Spec PyProof.Rows L2 Wd
theorem s12 : toS [0, 1, 2, 3, 4, 5, 6, 7, 8, 9, 10, 11] = ("abcdefABCDEF" : Str) := by decide +kernel
theorem len_s12 : ("abcdefABCDEF" : Str).length = 12 := by decide +kernel
theorem in_s12 (c : Nat) : inV (.str ⟨#[c]⟩) (L2.signs ("abcdefABCDEF" : Str)) = okC 6 c := by
  rw [← in_sg (by decide) (by decide), ← s12]
  rfl
end Kx
namespace L2
open PySem PySem.Spec PyProof.Rows Wd
theorem comp_list {K : PySem.W.Frag} {a : Addr} {xs : List V} {own : List Str} {cap : List Nat} {g : TG} {ti : TT} {te : TE} {σ : St} {H : Hp} {Q : VK} (Pv : Nat → List V → St → Hp → Prop) (h0 : Pv 0 [] (stB own cap σ) H) (hz : ∀ i ys σ H, i ≤ xs.length → Pv i ys σ H → ys.length ≤ i) (hn : xs.length ≤ sizeLine)
    (hl : ∀ i ys σ H, Pv i ys σ H → SqL K H a xs)
    (hs : ∀ i ys σ H x (N : List V → St → Hp → Prop), xs[i]? = some x → Pv i ys σ H → (∀ ys' σ' H'', Pv (i + 1) ys' σ' H'' → N ys' σ' H'') → g x σ H fun σ2 H2 => ti σ2 H2 fun b H3 => if b = true then te σ2 H3 fun y H4 => N (ys ++ [y]) σ2 H4 else N ys σ2 H3)
    (hd : ∀ ys σ H D, Pv xs.length ys σ H → H D = none → Q (.ref D) (upd H D (.lst ys))) :
    CompW own cap g ti te Q σ (Itl K a) H := by
  refine comp_by (J := Itl K a) xs.length Pv h0 hz hn (fun i ys σ H hi p => ⟨xs, xs[i], hl i ys σ H p, List.getElem?_eq_getElem hi⟩) (fun ys σ H p => ⟨xs, hl _ ys σ H p, Nat.le_refl _⟩) ?_ hd
  rintro i ys σ H x H' N hi p ⟨rfl, hx⟩ hN
  exact hs i ys σ _ x N (hx xs (hl i ys σ _ p)) p hN
theorem take_map {α β : Type} {xs : List α} {i : Nat} {x : α} (f : α → β) (h : xs[i]? = some x) : (xs.take (i + 1)).map f = (xs.take i).map f ++ [f x] := by
  rw [List.take_add_one, h, List.map_append]
  rfl
theorem take_filter {α : Type} {xs : List α} {i : Nat} {x : α} (f : α → Bool) (h : xs[i]? = some x) : (xs.take (i + 1)).filter f = (xs.take i).filter f ++ (if f x = true then [x] else []) := by
  rw [List.take_add_one, h, List.filter_append]
  simp only [Option.toList, List.filter_cons, List.filter_nil]
end L2
namespace L2
open PySem PySem.Spec PyProof.Rows Wd
theorem pt_bl {X : Cx} {a : Expr} {ta : TE} (ha : PE X a ta) (he : ∀ whole, isTrue a X.env whole = (do let v ← whole; standAt a.pos; holding [v] (truthy v))) : PT X a (tTest ta) := by
  intro pins s σ H Q I h
  refine isTrue_plain (thn (ha pins s σ H _ I h) fun v s1 ⟨x, H1, I1, r1, q1⟩ => tru_ok pins s1 σ H1 x v Q I1 r1 ?_) (he _)
  obtain ⟨k, e, q⟩ := q1
  subst e
  exact ⟨k, rfl, q⟩
end L2
namespace L2
open PySem PySem.Spec PyProof.Rows Wd
end L2
namespace L2
open PySem PySem.Spec PyProof.Rows Wd
end L2
namespace L2
open PySem PySem.Spec PyProof.Rows Wd
theorem none_of {H H1 : Hp} {a : Addr} (s : Same H H1) (h : H1 a = none) : H a = none := by
  cases e : H a with
  | none => rfl
  | some o => rw [s _ _ e] at h; cases h
end L2
set_option Elab.async false
set_option linter.all false
set_option maxRecDepth 100000
namespace L2
open PySem PySem.Spec PyProof.Rows
theorem ps_setC {X : Cx} {i : Nat} {y : Str} {py spos : Pos} {elt iter tg : Expr} {ifs : List Expr} {scope : Scope} {pos : Pos} {NB own : List Str} {cap : List Nat} {wi : TI} {g : TG} {ti : TT} {te : TE} (hN : X.N.Nodup) (hi0 : X.N[i]? = some y) (hx : Loc X.env.scope y) (B : Blk X scope NB own cap) (hc : X.calm = true) (hi : PI X tg iter wi)
    (hg : ∀ C fp s₀ H₀, PG (cxB X NB own scope C fp s₀ H₀) tg g) (ht : ∀ C fp s₀ H₀, PIf (cxB X NB own scope C fp s₀ H₀) ifs ti) (he : ∀ C fp s₀ H₀, PE (cxB X NB own scope C fp s₀ H₀) elt te)
    (hs : ∀ x, foldedSetIterable iter X.env x = pure x := by intro _; rfl) (hsw : swapsWith (.ListComp elt [⟨tg, iter, ifs, 0⟩] scope pos) (some (.Name y py)) spos.line X.env = pure true := by rfl) (hf : X.fn y = true ∨ X.env.scope.names.lookup y = some .local := by first | exact .inl rfl | exact .inr rfl | assumption) : PS X (.Assign [.Name y py] (.ListComp elt [⟨tg, iter, ifs, 0⟩] scope pos) spos) (tAsg (tComp own cap wi g ti te) (gName i)) := by
  intro pins s σ H DD I0 h
  rw [exec_Assign_Name_used _ _ _ _ hsw]
  refine wpAny_bind (wpAny_standAt (wpAny_bind ?_))
  show wpAny _ X.A (do let _ ← comprehension (.ListComp elt [⟨tg, iter, ifs, 0⟩] scope pos) scope X.env _ (newList []) false (eval iter X.env) (some (assign (.Name y py) X.env))) _ _ s
  have hclos := closureFor_is (env := X.env) (scope := scope) fun y hy e => I0.ok.has y.1 (.inl (B.free y hy e))
  refine wpAny_bind (wpAny_mono (wpAny_comprehension_free (use := some (assign (.Name y py) X.env)) (Q := fun _ s' => SP X pins DD .next s') rfl hs hclos B.kind B.names (thn (hi pins s σ H _ I0 h) fun v s1 h1 => thn h1 fun itv s2 h2 => ?_)) (fun _ s' hq => wpAny_pure (wpAny_pure hq)) fun _ _ e => e)
  obtain ⟨it, fp, tn, J, H2, rfl, I, T, st2, f2, W, ⟨m0, w0⟩, turn⟩ := h2
  refine wpAny_newList ?_
  refine wpAny_newFunctionEnv B.nocell (by intro y hy; simp at hy) (fun h₁ hns₁ hsb₁ => ?_) B.kind
  dsimp only at hns₁ hsb₁ ⊢
  generalize hP : s2.heap.push { cls := .type "list", dict := none, data := .seq ([] : List Value).toArray } = P at hns₁ hsb₁ ⊢
  have hC : P.objs.size = s2.heap.objs.size + 1 := by rw [← hP, Heap.size_push]
  have hDC : s2.heap.objs.size ≠ P.objs.size := by rw [hC]; exact Nat.ne_of_lt (Nat.lt_succ_self _)
  have hCle : s2.heap.objs.size ≤ P.objs.size := by rw [hC]; exact Nat.le_succ _
  have old : ∀ b o, s2.heap.get? b = some o → h₁.get? b = some o := fun b o e => by
    refine (hsb₁.2 b ?_).trans (Heap.get?_push_of_some _ (hP ▸ Heap.get?_push_of_some _ e))
    exact Nat.ne_of_lt (Nat.lt_of_lt_of_le (Heap.lt_size e) hCle)
  have hD : h₁.get? s2.heap.objs.size = some { cls := .type "list", data := .seq ([] : List Value).toArray 0 } := by
    refine (hsb₁.2 _ hDC).trans (Heap.get?_push_of_some _ ?_)
    rw [← hP]
    exact Heap.get?_push_size _ rfl
  have hfs : ∀ b ∈ fp, ∃ o, s2.heap.get? b = some o := fun b hb => let ⟨o, e, _⟩ := T.obj _ _ st2 b hb; ⟨o, e⟩
  have st4 : tn 0 h₁ := T.keep _ _ _ st2 fun b _ o e => old b o e
  generalize htk : s2.toks + ([] : List (Str × Value)).length = tk4
  have I4 := B.start (C := P.objs.size) (tk := tk4) I f2 hfs hCle old hns₁
  have fOk : ∀ {H' : Hp} {b : Addr} {ob : Obj}, b ∈ fp → H' b = none → FpOk (cxB X NB own scope P.objs.size fp s2 H2) [(s2.heap.objs.size, ob)] H' b := fun {H' b ob} hb hn => by
    obtain ⟨o, e⟩ := hfs b hb
    refine ⟨hn, (I4.ok.exf b hb).1, I4.ok.exfs b hb, .inl hb, (I4.ok.exf b hb).2, fun p hp => ?_⟩
    have ep : p = (s2.heap.objs.size, ob) := List.mem_singleton.mp (show p ∈ [(s2.heap.objs.size, ob)] from hp)
    rw [ep]
    exact fun z => absurd (Heap.lt_size e) (by rw [← z]; exact Nat.lt_irrefl _)
  have dnf : s2.heap.objs.size ∉ frs X.stack := fun z => by
    rcases List.mem_cons.mp (I.stkSub _ z) with z | z
    · exact absurd I.lt (by rw [← z]; exact Nat.lt_irrefl _)
    · exact I.nofs (Nat.le_refl _) z
  have I3D : ∀ {σ3 : St} {H3 : Hp} {s3 : Shared} {its : List Value} {k : Nat}, Inv (cxB X NB own scope P.objs.size fp s2 H2) [] σ3 H3 s3 → s3.heap.get? s2.heap.objs.size = some { cls := .type "list", data := .seq its.toArray k } → H3 s2.heap.objs.size = none →
      Inv (cxB X NB own scope P.objs.size fp s2 H2) [(s2.heap.objs.size, { cls := .type "list", data := .seq its.toArray k })] σ3 H3 s3 := fun I3 e n => I3.pins_of fun p hp => by
    have ep := List.mem_singleton.mp hp
    subst ep
    exact ⟨e, n, hDC, dnf, fun v z => by cases z⟩
  have ndf : s2.heap.objs.size ∉ fp := fun z => by
    obtain ⟨o, e⟩ := hfs _ z
    exact absurd (Heap.lt_size e) (Nat.lt_irrefl _)
  have nCD : ∀ x c, (cxB X NB own scope P.objs.size fp s2 H2).env.cells.lookup x = some c → c ≠ s2.heap.objs.size := fun x c e z => by
    obtain ⟨v, o, ho, _⟩ := I.cell x c (B.cells I.ok e).1
    rw [z] at ho
    exact absurd (Heap.lt_size ho) (Nat.lt_irrefl _)
  have loop : ∀ s₃ : Shared, s₃ = { s2 with heap := h₁, toks := tk4 } → codeAny (model X.prog X.w) X.A (.compLoop (.ListComp elt [⟨tg, iter, ifs, 0⟩] scope pos) 0 (.ref it) (.ref s2.heap.objs.size) (cxB X NB own scope P.objs.size fp s2 H2).env)
      (compPost (model X.prog X.w) X.A X.xe (some (assign (.Name y py) X.env)) (fun _ s' => SP X pins DD .next s') (.ref s2.heap.objs.size) P.objs.size) s₃ := by
    rintro s₃ rfl
    refine comp_loop (fun n s' => ∃ i σB H' ys its k, Inv (cxB X NB own scope P.objs.size fp s2 H2) [] σB H' s' ∧ tn i s'.heap ∧ (∀ b ∈ fp, H' b = none) ∧ s'.heap.get? s2.heap.objs.size = some { cls := .type "list", data := .seq (its : List Value).toArray k } ∧ Vals ys its ∧ H' s2.heap.objs.size = none ∧ W i n ys σB H') ?_ m0
      ⟨0, stB own cap σ, H2, [], [], 0, I4, st4, fun b hb => (f2 b hb).1, hD, .nil, I.hok.fresh (Nat.le_refl _), w0⟩
    rintro n s3 ⟨i, σ3, H3, ys, its, k, I3, st3, fr3, hD3, rv, hn3, w3⟩
    rcases turn i n ys σ3 H3 w3 with ⟨stop, hz, q⟩ | ⟨go, hz, step⟩
    · refine thn (T.done (cxB X NB own scope P.objs.size fp s2 H2) rfl rfl rfl hc i _ s3 σ3 H3 noE (I3D I3 hD3 hn3) (fun b hb => fOk hb (fr3 b hb)) st3 stop) fun r s4 zq1 => ?_
      obtain ⟨hr, I4'⟩ := zq1
      subst hr
      have hD4 : s4.heap.get? s2.heap.objs.size = some { cls := .type "list", data := .seq (its : List Value).toArray k } := (I4'.pin (s2.heap.objs.size, _) (List.mem_append_right _ (List.mem_singleton.mpr rfl))).1
      have I5 : Inv (cxB X NB own scope P.objs.size fp s2 H2) [] σ3 H3 s4 := I4'.pins_of fun p hp => absurd (show p ∈ ([] : List (Addr × Obj)) from hp) (by simp)
      obtain ⟨mC, hnC, _⟩ := I5.loc
      have I6 : Inv X pins σ (upd H3 s2.heap.objs.size (.lst ys)) s4 := B.done (h'' := s4.heap) I f2 hCle (Nat.le_refl _) hDC I5 hn3 hD4 rv hz ⟨rfl, fun _ _ => rfl⟩
      obtain ⟨oC, es, ep, hoC, hdC, rC⟩ := hnC
      have hCn : (upd H3 s2.heap.objs.size (.lst ys)) P.objs.size = none := by rw [upd_ne hDC.symm]; exact I5.free
      have nL : P.objs.size ≠ X.env.locals := fun z => absurd I.lt (by rw [← z]; exact Nat.not_lt.mpr hCle)
      have I7 : Inv X (pins ++ [(P.objs.size, oC)]) σ (upd H3 s2.heap.objs.size (.lst ys)) s4 := I6.pins_of fun p hp => by
        rcases List.mem_append.mp hp with z | z
        · exact I6.pin p (List.mem_append_right _ z)
        · have ep := List.mem_singleton.mp z
          subst ep
          exact ⟨hoC, hCn, nL, I.nofs hCle, fun v z => by rw [hdC] at z; cases z⟩
      refine thn (pg_name (pos := py) hN hi0 hx hf (pins ++ [(P.objs.size, oC)]) s4 σ _ (.ref s2.heap.objs.size) (.ref s2.heap.objs.size) (fun σ' H' => DD.nx σ' H' ∧ H' = upd H3 s2.heap.objs.size (.lst ys)) I7 rfl ⟨q _ hn3, rfl⟩) fun _ s5 zq2 => ?_
      obtain ⟨σ5, H5, I8, q5, e5⟩ := zq2
      subst e5
      have pC := (I8.pin (P.objs.size, oC) (List.mem_append_right _ (List.mem_append_right _ (List.mem_singleton.mpr rfl)))).1
      refine ⟨mC, ⟨oC, es, ep, pC, hdC, rC⟩, fun h'' sb => ⟨σ5, _, ?_, q5⟩⟩
      have I9 : Inv X pins σ5 (upd H3 s2.heap.objs.size (.lst ys)) s5 := I8.pins_of fun p hp => I8.pin p (List.mem_append_right _ (List.mem_append_left _ hp))
      refine I9.turned (t' := s5.toks) (it := P.objs.size) (fun b o hb e => (sb.2 b hb).trans e) hCn nL (.inr (Nat.le_trans I.sz hCle)) (fun x c e z => ?_) fun p hp z => ?_
      · obtain ⟨v, o, ho, _⟩ := I.cell x c e
        exact absurd (Heap.lt_size ho) (by rw [z]; exact Nat.not_lt.mpr hCle)
      · exact absurd (Heap.lt_size (I.pin p hp).1) (by rw [z]; exact Nat.not_lt.mpr hCle)
    · refine thn (T.item (cxB X NB own scope P.objs.size fp s2 H2) rfl rfl rfl hc i _ s3 σ3 H3 noE (I3D I3 hD3 hn3) (fun b hb => fOk hb (fr3 b hb)) st3 go) fun r s4 zq3 => ?_
      obtain ⟨u, hr, h4⟩ := zq3
      subst hr
      refine thn h4 fun _ s5 zq4 => ?_
      obtain ⟨x, H5, I5, r5, y5, st5, fr5⟩ := zq4
      have I5' := I5.pinned (fun b hb => fOk hb (fr5 b hb)) (T.obj _ _ st5)
      refine thn (hg _ fp s2 H2 _ s5 σ3 H5 x u _ I5' r5 (step x H5 y5)) fun _ s6 zq5 => ?_
      obtain ⟨σ6, H6, I6, q6⟩ := zq5
      refine thn (ht _ fp s2 H2 _ s6 σ6 H6 _ I6 q6) fun b s7 zq6 => ?_
      obtain ⟨H7, I7, q7⟩ := zq6
      have pinned : ∀ {σ8 : St} {H8 : Hp} {s8 : Shared}, Inv (cxB X NB own scope P.objs.size fp s2 H2) ([(s2.heap.objs.size, { cls := .type "list", data := .seq (its : List Value).toArray k })] ++ pinsAt fp s5.heap) σ8 H8 s8 →
          tn (i + 1) s8.heap ∧ (∀ b ∈ fp, H8 b = none) ∧ s8.heap.get? s2.heap.objs.size = some { cls := .type "list", data := .seq (its : List Value).toArray k } ∧ H8 s2.heap.objs.size = none := fun {σ8 H8 s8} I8 => by
        refine ⟨T.keep _ _ _ st5 fun b hb o e => (I8.pin (b, o) (List.mem_append_right _ (List.mem_append_right _ (mem_pinsAt hb e)))).1, fun b hb => ?_, ?_, ?_⟩
        · obtain ⟨o, e, d⟩ := T.obj _ _ st5 b hb
          exact (I8.pin (b, o) (List.mem_append_right _ (List.mem_append_right _ (mem_pinsAt hb e)))).2.1
        · exact (I8.pin (s2.heap.objs.size, _) (List.mem_append_right _ (List.mem_append_left _ (List.mem_singleton.mpr rfl)))).1
        · exact (I8.pin (s2.heap.objs.size, _) (List.mem_append_right _ (List.mem_append_left _ (List.mem_singleton.mpr rfl)))).2.1
      have nopin : ∀ {pp : List (Addr × Obj)} {σ8 : St} {H8 : Hp} {s8 : Shared}, Inv (cxB X NB own scope P.objs.size fp s2 H2) pp σ8 H8 s8 → Inv (cxB X NB own scope P.objs.size fp s2 H2) [] σ8 H8 s8 := fun I8 => I8.pins_of fun p hp => absurd (show p ∈ ([] : List (Addr × Obj)) from hp) (by simp)
      cases b with
      | false =>
        rw [if_neg Bool.false_ne_true] at q7 ⊢
        obtain ⟨m', hm, w7⟩ := q7
        obtain ⟨p1, p2, p3, p4⟩ := pinned I7
        exact ⟨m', hm, i + 1, σ6, H7, ys, its, k, nopin I7, p1, p2, p3, rv, p4, w7⟩
      | true =>
        rw [if_pos rfl] at q7 ⊢
        refine thn (he _ fp s2 H2 _ s7 σ6 H7 _ I7 q7) fun yv s8 zq7 => ?_
        obtain ⟨y, H8, I8, r8, m', hm, w8⟩ := zq7
        obtain ⟨p1, p2, p3, p4⟩ := pinned I8
        refine call_meets F.slot_list_append ⟨_, p3, rfl⟩ F.entry_list_append (F.args_list_append_2 _ _) (PySem.list_append s2.heap.objs.size its.toArray k yv (by rw [List.size_toArray, ← rv.length]; omega)) ⟨p3, ?_⟩
        have q := PySem.IsL.update p3 fun a => a.push yv
        have ea : its.toArray.push yv = (its ++ [yv]).toArray := by simp
        rw [ea] at q
        have I9 : Inv (cxB X NB own scope P.objs.size fp s2 H2) [] σ6 H8 { s8 with heap := s8.heap.update s2.heap.objs.size (Obj.mapSeq fun a => a.push yv), toks := s8.toks } :=
          (nopin I8).turned (it := s2.heap.objs.size) (fun b o hb e => (Heap.get?_update_other s8.heap _ (Ne.symm hb)).trans e) p4 hDC (.inr (Nat.le_refl _)) (fun x c e => nCD x c e) fun p hp => absurd (show p ∈ ([] : List (Addr × Obj)) from hp) (by simp)
        refine ⟨m', hm, i + 1, σ6, H8, ys ++ [y], its ++ [yv], _, I9, ?_, p2, q, rv.append (.cons r8 .nil), p4, w8⟩
        refine T.keep _ _ _ p1 fun b hb o e => (Heap.get?_update_other s8.heap _ ?_).trans e
        intro z
        rw [z] at ndf
        exact ndf hb
  exact codeAny_compStart_list (loop _ rfl) (T.self X.A 0 _ _ _ st4 (loop _ rfl))

end L2
namespace L2
open PySem PySem.Spec PyProof.Rows Wd
end L2
set_option Elab.async false
set_option linter.all false
set_option maxRecDepth 100000
namespace PySem
open Sem (wp)
open AutoSeq1 (wpAny_loadPart')
section
variable {prog : Program} {w : World} {A : Around} {E : Value → Shared → Prop} {s : Shared}
theorem nextT_item {it tp : Addr} {k : Nat} {its : Array Value} {v : Value} {Q : Value → Shared → Prop} (hit : s.heap.IsTupleIter it tp k) (ht : s.heap.IsTuple tp its) (hv : its[k]? = some v)
    (hQ : ∀ h', h'.IsTupleIter it tp (k + 1) → Heap.SameBut it s.heap h' → Q v { s with heap := h' }) : wpAny (model prog w) A (Builtin.SmallTypes.nextOf (.ref it)) Q E s := by
  obtain ⟨oi, gi, ci, di⟩ := id hit
  obtain ⟨ot, gt, _, nt, dt⟩ := ht
  unfold Builtin.SmallTypes.nextOf
  refine wpAny_bind (wpAny_callSpecial?_slot (name := Str.ofString "__next__") hit.typeIs F.slot_tuple_iterator_next (wpAny_call_entry F.slot_tuple_iterator_next hit.typeIs F.entry_tuple_iterator_next ?_ (F.args_tuple_iterator_next_1 _)))
  show wpAny _ _ (field (.ref it) 0 >>= _) _ _ s
  refine wpAny_bind (wpAny_field gi di (x := .ref tp) rfl ?_)
  show wpAny _ _ (if (Value.ref tp == Value.none) = true then _ else _) _ _ s
  rw [if_neg (show ¬ ((Value.ref tp == Value.none) = true) from Bool.false_ne_true)]
  show wpAny _ _ (field (.ref it) 1 >>= _) _ _ s
  refine wpAny_bind (wpAny_field gi di (x := .int k 0) rfl ?_)
  show wpAny _ _ (seqItems? (.ref tp) >>= _) _ _ s
  refine wpAny_bind (wpAny_seqItems gt dt ?_)
  simp only [Int.toNat_natCast, hv]
  refine wpAny_bind (wpAny_setField gi di (by simp) (wpAny_pure ⟨v, rfl, wpAny_pure (hQ _ ?_ (Heap.SameBut.update ..))⟩))
  exact ⟨_, Heap.get?_update_self _ gi (Obj.isFreed_of_fields (Obj.data_mapFields di _)), (Obj.cls_mapFields ..).trans ci, by rw [Obj.data_mapFields di]; simp [rawInt]⟩
theorem nextT_end {it tp : Addr} {k : Nat} {its : Array Value} {Q : Value → Shared → Prop} (hh : A.handled = none) (hit : s.heap.IsTupleIter it tp k) (ht : s.heap.IsTuple tp its) (hv : its[k]? = none)
    (hE : ∀ h' e, Heap.ExtBut it s.heap h' → (∃ o, h'.get? e = some o ∧ o.cls = .type "StopIteration") → E (.ref e) { s with heap := h' }) : wpAny (model prog w) A (Builtin.SmallTypes.nextOf (.ref it)) Q E s := by
  obtain ⟨oi, gi, ci, di⟩ := id hit
  obtain ⟨ot, gt, _, nt, dt⟩ := ht
  unfold Builtin.SmallTypes.nextOf
  refine wpAny_bind (wpAny_callSpecial?_slot (name := Str.ofString "__next__") hit.typeIs F.slot_tuple_iterator_next (wpAny_call_entry F.slot_tuple_iterator_next hit.typeIs F.entry_tuple_iterator_next ?_ (F.args_tuple_iterator_next_1 _)))
  show wpAny _ _ (field (.ref it) 0 >>= _) _ _ s
  refine wpAny_bind (wpAny_field gi di (x := .ref tp) rfl ?_)
  show wpAny _ _ (if (Value.ref tp == Value.none) = true then _ else _) _ _ s
  rw [if_neg (show ¬ ((Value.ref tp == Value.none) = true) from Bool.false_ne_true)]
  show wpAny _ _ (field (.ref it) 1 >>= _) _ _ s
  refine wpAny_bind (wpAny_field gi di (x := .int k 0) rfl ?_)
  show wpAny _ _ (seqItems? (.ref tp) >>= _) _ _ s
  refine wpAny_bind (wpAny_seqItems gt dt ?_)
  simp only [Int.toNat_natCast, hv]
  refine wpAny_bind (wpAny_rule (wpAny_bind (wpAny_setField gi di (by simp) ?_)))
  show wpAny _ _ (newExc (.type "StopIteration") [] >>= _) _ _ _
  refine wpAny_bind ?_
  simp only [newExc, newTuple]
  refine wpAny_bind (wpAny_newObj_type ?_ (by size_fits))
  refine wpAny_bind (m := firstArgMember _ _) (wpAny_of_eq (a := Value.none) (by first | rfl | (simp only [firstArgMember]; rfl)) (wpAny_newObj_type ?_ (by size_fits)))
  simp only [raiseNew]
  refine wpAny_bind (wpAny_handled ?_)
  first | rw [show A.in1.handled = none from hh] | rw [hh]
  exact wpAny_bind (wpAny_pure (wpAny_throw (hE _ _ (((Heap.SameBut.update ..).extBut.push _).push _) ⟨_, Heap.get?_push_size _ rfl, rfl⟩)))
theorem drawsT {prog : Program} {w : World} {A : Around} (hh : A.handled = none) (it tp : Addr) (hne : tp ≠ it) (its : Array Value) :
    Draws prog w A it [it, tp] its.size (fun i x => its[i]? = some x) (fun i h => h.IsTupleIter it tp i ∧ h.IsTuple tp its) where
  live := fun i h st => let ⟨⟨o, e, _⟩, _⟩ := st; ⟨o, e⟩
  frame := fun i h h' st kk => ⟨st.1.at fun o e => kk it (by simp) o e, let ⟨o, e, r⟩ := st.2; ⟨o, kk tp (by simp) o e, r⟩⟩
  item := fun i s Q E hi st hQ => nextT_item st.1 st.2 (Array.getElem?_eq_getElem hi) fun h' st' sb => hQ _ h' s.toks (Array.getElem?_eq_getElem hi) ⟨st', let ⟨o, e, r⟩ := st.2; ⟨o, (sb.2 tp hne).trans e, r⟩⟩ sb
  done := fun s Q E st hE => nextT_end hh st.1 st.2 (Array.getElem?_eq_none (Nat.le_refl _)) hE
end
end PySem
namespace L2
open PySem PySem.Spec PyProof.Rows Wd
noncomputable def Itel (K : PySem.W.Frag) (a : Addr) : It := ⟨fun i H => ∃ xs x, SqL K H a xs ∧ xs[i]? = some x,
  fun i H v H' => ∃ (T : Addr) (x : V), H T = none ∧ v = .ref T ∧ (∀ xs, SqL K H a xs → xs[i]? = some x) ∧ H' = upd H T (.tup [.int i, x]), fun i H => ∃ xs, SqL K H a xs ∧ xs.length ≤ i⟩
theorem enum_item {X : Cx} {pins : List (Addr × Obj)} {σ : St} {H : Hp} {s : Shared} {E : Value → Shared → Prop} {elts : List Expr} {k : Nat} {pos : Pos} {e it : Addr} {fp : List Addr} {n i : Nat} {Pv : Nat → Value → Prop} {St' : Nat → Heap → Prop} {old : Value} {tn : Nat → Heap → Prop} {Y : V → Hp → Prop} {x : V}
    (D : Draws X.prog X.w X.A.in1 it fp n Pv St') (I : Inv X pins σ H s) (hf : ∀ b ∈ [e, it], FpOk X pins H b) (he : IsEnum s.heap e it i old) (hst : St' i s.heap) (hi : i < n) (hne : e ≠ it) (hef : e ∉ fp) (hrel : ∀ u, Pv i u → RelV x u) (hit : ∃ o, s.heap.get? it = some o)
    (hY : ∀ T, H T = none → Y (.ref T) (upd H T (.tup [.int i, x]))) (htn : ∀ h', St' (i + 1) h' → (∃ old, IsEnum h' e it ((i : Int) + 1) old) → tn (i + 1) h') :
    wpAny (model X.prog X.w) X.A (pyNext (.ref e)) (fun r s1 => ∃ u, r = some u ∧
      wpAny (model X.prog X.w) X.A (letOwnedTupleGo (.Tuple elts k pos) (.ref e) u) (fun _ s2 => ∃ y H', Inv X pins σ H' s2 ∧ RelV y u ∧ Y y H' ∧ tn (i + 1) s2.heap ∧ ∀ b ∈ [e, it], H' b = none) E s1) E s := by
  refine wpAny_pyNext_enum_itemD D he hst hi hne hef fun u h' tk hu b1 b2 b3 b4 b5 => ⟨_, rfl, wpAny_letOwnedTupleGo_enum b1 fun h2 c1 e2 => ?_⟩
  have hTe : s.heap.objs.size ≠ e := Nat.ne_of_gt (Heap.lt_size he)
  have kk : ∀ b o, b ∉ [e, it] → s.heap.get? b = some o → h2.get? b = some o := fun b o hb q => by
    simp only [List.mem_cons, List.not_mem_nil, or_false, not_or] at hb
    exact e2.extBut _ _ hb.1 (b5 b o hb.1 hb.2 q)
  have there : ∀ b ∈ [e, it], ∃ o, s.heap.get? b = some o := fun b hb => by
    simp only [List.mem_cons, List.not_mem_nil, or_false] at hb
    rcases hb with rfl | rfl
    · exact ⟨_, he⟩
    · exact hit
  have I2 : Inv X pins σ (upd H s.heap.objs.size (.tup [.int i, x])) { s with heap := h2, toks := tk + 1 } :=
    I.stepT (ch := [e, it]) (its := [.int i tk, u]) hf kk (Nat.le_refl _) (by show 2 ≤ sizeLine; decide) (.cons ⟨_, rfl⟩ (.cons (hrel u hu) .nil)) ⟨_, e2.extBut _ _ hTe b3, rfl, _, rfl⟩ there
  have hn : H s.heap.objs.size = none := I.hok.fresh (Nat.le_refl _)
  refine ⟨.ref s.heap.objs.size, _, I2, rfl, hY _ hn, htn h2 (D.frame _ _ _ b2 fun b hb o q => e2.extBut _ _ (fun z => hef (z ▸ hb)) q) ⟨_, c1⟩, fun b hb => ?_⟩
  obtain ⟨o, q⟩ := there b hb
  rw [upd_ne (Nat.ne_of_lt (Heap.lt_size q))]
  exact (hf b hb).1
theorem turn_enl {P : Program} {w : World} {K : PySem.W.Frag} {elts : List Expr} {k : Nat} {pos : Pos} {e it a : Addr} (hne : e ≠ it) :
    Turn P w K (.Tuple elts k pos) (Itel K a) [e, it] e (fun i h => (∃ old, IsEnum h e it i old) ∧ h.IsListIter it a i) where
  mem := by simp
  obj := fun i h st b hb => by
    obtain ⟨⟨old, s1⟩, ⟨o, s2, _, d2⟩⟩ := st
    simp only [List.mem_cons, List.not_mem_nil, or_false] at hb
    rcases hb with rfl | rfl
    · exact ⟨_, s1, fun v q => by cases q⟩
    · exact ⟨_, s2, fun v q => by rw [d2] at q; cases q⟩
  keep := fun i h h' st kk => by
    obtain ⟨⟨old, s1⟩, s2⟩ := st
    exact ⟨⟨old, kk e (by simp) _ s1⟩, s2.at fun o q => kk it (by simp) o q⟩
  item := by
    intro X hP hw hK hc i pins s σ H E I hf st hg
    subst hP hw hK
    obtain ⟨xs, x, hq, hx⟩ := hg
    obtain ⟨its, rv, p, hz⟩ := I.list hq
    obtain ⟨u, hu, ru⟩ := rv.get hx
    obtain ⟨⟨old, s1⟩, s2⟩ := st
    have hu' : its.toArray[i]? = some u := by simpa using hu
    have ha : a ≠ e := fun z => by obtain ⟨o, q, c, _⟩ := p.isList; rw [z, s1] at q; cases q; simp at c
    have hb : a ≠ it := fun z => by obtain ⟨o, q, c, _⟩ := p.isList; obtain ⟨o2, q2, c2, _⟩ := s2; rw [z, q2] at q; cases q; rw [c2] at c; simp at c
    refine enum_item (tn := fun i h => (∃ old, IsEnum h e it i old) ∧ h.IsListIter it a i) (Draws.list (by exact I.ok.hd hc) it a hb its.toArray) I hf s1 ⟨s2, p.isList⟩ (Array.getElem?_eq_some_iff.mp hu').1 hne (by simp only [List.mem_cons, List.not_mem_nil, or_false, not_or]; exact ⟨hne, fun z => ha z.symm⟩)
      (fun u2 h2 => by rw [show its.toArray[i]? = some u2 from h2] at hu'; cases hu'; exact ru) (let ⟨o, q, _⟩ := s2; ⟨o, q⟩) (fun T hT => ⟨T, x, hT, rfl, fun ys hy => by rw [I.list_inj hy hq]; exact hx, rfl⟩) fun h' st' ho => ⟨by simpa using ho, st'.1⟩
  done := by
    intro X hP hw hK hc i pins s σ H E I hf st hg
    subst hP hw hK
    obtain ⟨xs, hq, hx⟩ := hg
    obtain ⟨its, rv, p, hz⟩ := I.list hq
    obtain ⟨⟨old, s1⟩, s2⟩ := st
    obtain ⟨f0, f1, f2, f3, f4, f5⟩ := hf it (by simp)
    have hl := rv.length
    exact wpAny_pyNext_enum_end (I.ok.hd hc) s1 s2 p.isList (by simp; omega) fun h' eb => ⟨rfl, I.turned (t' := s.toks) (fun b o hb q => eb b o hb q) f0 f1 f3 f4 f5⟩
  self := fun _ _ _ _ _ st h => let ⟨⟨_, s1⟩, _⟩ := st; wpAny_pyIter_enum s1 h
section
variable {X : Cx}
noncomputable def iEnl (K : PySem.W.Frag) (ta : TA) : TI := fun σ H R => ta σ H fun vs H1 => ∃ a, vs = [.ref a] ∧ (∃ xs, SqL K H1 a xs) ∧ R (Itel K a) H1
theorem fp2 {pins : List (Addr × Obj)} {σ : St} {H : Hp} {s : Shared} (I : Inv X pins σ H s) : ∀ b ∈ [s.heap.objs.size + 1, s.heap.objs.size], FpOk X pins H b := fun b hb => by
  have hge : s.heap.objs.size ≤ b := by
    simp only [List.mem_cons, List.not_mem_nil, or_false] at hb
    rcases hb with rfl | rfl <;> omega
  exact I.fpOk hge (I.hok.fresh hge)
theorem pi_enl {K : PySem.W.Frag} (hK : X.K = K) {a : Expr} {ta : TA} {p pos tp : Pos} {elts : List Expr} {k : Nat} (hg : Gl X "enumerate") (hm : X.mg "enumerate" = none) (hb : bootBuiltins "enumerate" = some (.type "enumerate")) (ha : PA X [a] ta) (hs : starEach [a] X.env = [(false, eval a X.env)] := by rfl) :
    PI X (.Tuple elts k tp) (.Call (.Name "enumerate" p) [a] [] pos) (iEnl K ta) := by
  subst hK
  intro pins s σ H R I h
  refine Call_ (ld_blt I hg hm hb (PyProof.Rows.callWith_type1 (thn (ha pos pins s σ H _ I h) fun us s1 zq1 => ?_) hs rfl))
  obtain ⟨vs, H1, I1, r1, q1⟩ := zq1
  obtain ⟨l, rfl, ⟨xs, hq⟩, q⟩ := q1
  obtain ⟨u1, rfl, ru⟩ := vals1 r1
  cases ru
  obtain ⟨its, rv, pl, hz⟩ := I1.list hq
  refine call_enumerate_list pl.isList fun h' b1 b2 b3 b4 => ?_
  have I2 : Inv X pins σ H1 { s1 with heap := h', toks := s1.toks } := I1.kept b4
  exact wpAny_pyIter_enum (s := { s1 with heap := h', toks := s1.toks }) b1 ⟨s1.heap.objs.size + 1, [s1.heap.objs.size + 1, s1.heap.objs.size], _, Itel X.K l, H1, rfl, I2, turn_enl (Nat.succ_ne_self _), ⟨⟨_, b1⟩, b2⟩, fp2 I1, q⟩
end
theorem for_enl {K : PySem.W.Frag} {a : Addr} {xs : List V} {g : TG} {tb : TS} {D : Ends} {σ : St} {H : Hp} (Pv : Nat → St → Hp → Prop) (h0 : Pv 0 σ H) (hl : ∀ i σ H, i ≤ xs.length → Pv i σ H → SqL K H a xs)
    (hs : ∀ i x σ H T, xs[i]? = some x → Pv i σ H → H T = none → g (.ref T) σ (upd H T (.tup [.int i, x])) fun σ2 H2 => tb { D with nx := Pv (i + 1), ct := Pv (i + 1), bk := D.nx } σ2 H2) (hd : ∀ σ H, Pv xs.length σ H → D.nx σ H) :
    ∃ W : Nat → Nat → St → Hp → Prop, (∃ m, W 0 m σ H) ∧ ∀ i m σ H, W i m σ H →
      ((Itel K a).stop i H ∧ D.nx σ H) ∨ ((Itel K a).go i H ∧ ∃ N : St → Hp → Prop, (∀ σ' H', N σ' H' → ∃ m', m' < m ∧ W (i + 1) m' σ' H') ∧ ∀ x H', (Itel K a).yld i H x H' → g x σ H' fun σ2 H2 => tb { D with nx := N, ct := N, bk := D.nx } σ2 H2) := by
  refine ⟨fun i m σ H => m = xs.length - i ∧ i ≤ xs.length ∧ Pv i σ H, ⟨xs.length, by simp, Nat.zero_le _, h0⟩, ?_⟩
  rintro i m σ H ⟨rfl, hi, p⟩
  have q := hl i σ H hi p
  by_cases hlt : i < xs.length
  · refine .inr ⟨⟨xs, xs[i], q, by simp [hlt]⟩, Pv (i + 1), fun σ' H' p' => ⟨xs.length - (i + 1), by omega, rfl, hlt, p'⟩, ?_⟩
    rintro v H' ⟨T, x, hT, rfl, hx, rfl⟩
    exact hs i x σ _ T (hx xs q) p hT
  · obtain rfl : i = xs.length := by omega
    exact .inl ⟨⟨xs, q, Nat.le_refl _⟩, hd σ H p⟩
end L2
set_option Elab.async false
set_option linter.all false
set_option maxRecDepth 100000
namespace PySem
open Sem (wp)
structure Ap2 (z TO i1 i2 : Addr) (fp1 fp2 : List Addr) : Prop where
  z1 : z ∉ fp1
  z2 : z ∉ fp2
  o1 : TO ∉ fp1
  o2 : TO ∉ fp2
  i12 : i1 ∉ fp2
  i21 : i2 ∉ fp1
section
variable {prog : Program} {w : World} {A : Around} {E : Value → Shared → Prop} {s : Shared} {z TI TO i1 i2 : Addr} {k n1 n2 : Nat} {a b : Value} {fp1 fp2 : List Addr} {P1 P2 : Nat → Value → Prop} {S1 S2 : Nat → Heap → Prop}
theorem zipD_item {Q : Value → Shared → Prop} (D1 : Draws prog w A i1 fp1 n1 P1 S1) (D2 : Draws prog w A i2 fp2 n2 P2 S2) (D : Ap5 z TI TO i1 i2)
    (B : Ap2 z TO i1 i2 fp1 fp2) (hz : IsZip s.heap z TI TO .none) (hTI : IsPair s.heap TI (.ref i1) (.ref i2)) (hTO : IsPair s.heap TO a b) (h1 : S1 k s.heap) (h2 : S2 k s.heap) (hx : k < n1) (hy : k < n2)
    (hQ : ∀ h' tk v1 v2, P1 k v1 → P2 k v2 → IsZip h' z TI TO (rawInt s.heap.objs.size) → IsPair h' TO v1 v2 → S1 (k + 1) h' → S2 (k + 1) h' → IsPair h' s.heap.objs.size v1 v2 →
      (∀ e o, e ≠ z → e ≠ TO → e ≠ i1 → e ≠ i2 → s.heap.get? e = some o → h'.get? e = some o) → Q (.ref s.heap.objs.size) { s with heap := h', toks := tk }) :
    wpAny (model prog w) A (Builtin.«zip.__next__» ⟨[.ref z], []⟩) (fun fin s' => ∃ v, fin = .done (.ret v) ∧ Q v s') E s := by
  show wpAny _ _ (field (.ref z) 2 >>= _) _ _ _
  refine wpAny_bind (wpAny_field hz rfl (x := .bool false) rfl ?_)
  show wpAny _ _ (field (.ref z) 3 >>= _) _ _ _
  refine wpAny_bind (wpAny_field hz rfl (x := .ref TI) rfl (wpAny_bind (wpAny_seqItems hTI rfl ?_)))
  show wpAny _ _ (Builtin.SmallTypes.ownedTupleIsFree (.ref z) >>= _) _ _ _
  refine wpAny_bind ?_
  unfold Builtin.SmallTypes.ownedTupleIsFree
  refine wpAny_bind (wpAny_field hz rfl (x := .none) rfl (wpAny_pure ?_))
  simp only [if_true]
  refine wpAny_bind (wpAny_rule (wpAny_bind (wpAny_field hz rfl (x := .ref TO) rfl (wpAny_bind (wpAny_setField_rec hz (by simp) fun g1 hz1 e1 => ?_)))))
  have hz1 : IsZip g1 z TI TO .ellipsis := hz1
  refine wpAny_bind ?_
  simp only [List.zipIdx_cons, List.zipIdx_nil, List.forIn_cons, List.forIn_nil]
  refine wpAny_bind (wpAny_bind (wpAny_onRaise ?_))
  show wpAny _ _ (Builtin.SmallTypes.nextOf (.ref i1) >>= _) _ _ _
  refine wpAny_bind (D1.item k _ _ _ hx (D1.frame _ _ _ h1 fun q hq o eq => e1.extBut _ _ (fun zz => B.z1 (zz ▸ hq)) eq) fun v1 g2 tk2 p1 j1 e2 => wpAny_pure ?_)
  have o2 : IsPair g2 TO a b := e2.extBut _ _ D.TOi1 (e1.extBut _ _ D.TOz hTO)
  refine wpAny_bind (wpAny_seqItems o2 rfl (wpAny_bind (wpAny_updateSeq_pair o2 fun g3 o3 e3 => wpAny_bind (wpAny_letGo (wpAny_pure ?_)))))
  have o3 : IsPair g3 TO v1 b := o3
  refine wpAny_bind (wpAny_bind (wpAny_onRaise ?_))
  show wpAny _ _ (Builtin.SmallTypes.nextOf (.ref i2) >>= _) _ _ _
  refine wpAny_bind (D2.item k _ _ _ hy (D2.frame _ _ _ h2 fun q hq o eq => e3.extBut _ _ (fun zz => B.o2 (zz ▸ hq)) (e2.extBut _ _ (fun zz => B.i12 (zz ▸ hq)) (e1.extBut _ _ (fun zz => B.z2 (zz ▸ hq)) eq))) fun v2 g4 tk4 p2 j2 e4 => wpAny_pure ?_)
  have o4 : IsPair g4 TO v1 b := e4.extBut _ _ D.TOi2 o3
  refine wpAny_bind (wpAny_seqItems o4 rfl (wpAny_bind (wpAny_updateSeq_pair o4 fun g5 o5 e5 => wpAny_bind (wpAny_letGo (wpAny_pure (wpAny_pure ?_))))))
  have o5 : IsPair g5 TO v1 v2 := o5
  refine wpAny_bind (wpAny_seqItems o5 rfl (wpAny_bind (wpAny_newTuple ?_)))
  have hsz : g5.objs.size = s.heap.objs.size := by rw [e5.1, e4.1, e3.1, e2.1, e1.1]
  have z5 : IsZip g5 z TI TO .ellipsis := e5.extBut _ _ D.TOz.symm (e4.extBut _ _ D.i2z.symm (e3.extBut _ _ D.TOz.symm (e2.extBut _ _ D.i1z.symm hz1)))
  have kk : ∀ e o, e ≠ z → e ≠ TO → e ≠ i1 → e ≠ i2 → s.heap.get? e = some o → g5.get? e = some o := fun e o n1 n2 n3 n4 q => e5.extBut _ _ n2 (e4.extBut _ _ n4 (e3.extBut _ _ n2 (e2.extBut _ _ n3 (e1.extBut _ _ n1 q))))
  have j1' : S1 (k + 1) g5 := D1.frame _ _ _ j1 fun q hq o eq => e5.extBut _ _ (fun zz => B.o1 (zz ▸ hq)) (e4.extBut _ _ (fun zz => B.i21 (zz ▸ hq)) (e3.extBut _ _ (fun zz => B.o1 (zz ▸ hq)) eq))
  have j2' : S2 (k + 1) g5 := D2.frame _ _ _ j2 fun q hq o eq => e5.extBut _ _ (fun zz => B.o2 (zz ▸ hq)) eq
  have zlt : z < g5.objs.size := Heap.lt_size z5
  show wpAny _ _ (Builtin.SmallTypes.ownedTupleHandOut (.ref z) (.ref g5.objs.size) >>= _) _ _ _
  refine wpAny_bind ?_
  unfold Builtin.SmallTypes.ownedTupleHandOut
  have z6 : IsZip (g5.push { cls := .type "tuple", data := .seq #[v1, v2] }) z TI TO .ellipsis := Heap.get?_push_of_some _ z5
  refine wpAny_bind (wpAny_setField_rec z6 (by simp) fun g7 z7 e7 => ?_)
  have z7 : IsZip g7 z TI TO (rawInt g5.objs.size) := z7
  refine wpAny_setField_rec z7 (by simp) fun g8 z8 e8 => ?_
  have z8 : IsZip g8 z TI TO (rawInt g5.objs.size) := z8
  have up : ∀ e o, e ≠ z → g5.get? e = some o → g8.get? e = some o := fun e o n1 q => e8.extBut _ _ n1 (e7.extBut _ _ n1 (Heap.get?_push_of_some _ q))
  have T8 : IsPair g8 g5.objs.size v1 v2 := e8.extBut _ _ (Nat.ne_of_gt zlt) (e7.extBut _ _ (Nat.ne_of_gt zlt) (Heap.get?_push_size _ rfl))
  rw [hsz] at z8 T8
  refine wpAny_pure ⟨_, rfl, ?_⟩
  show Q (.ref g5.objs.size) _
  rw [hsz]
  exact hQ g8 _ v1 v2 p1 p2 z8 (up _ _ D.TOz o5) (D1.frame _ _ _ j1' fun q hq o eq => up q o (fun zz => B.z1 (zz ▸ hq)) eq) (D2.frame _ _ _ j2' fun q hq o eq => up q o (fun zz => B.z2 (zz ▸ hq)) eq) T8 fun e o n1 n2 n3 n4 q => up e o n1 (kk e o n1 n2 n3 n4 q)
theorem zipD_end {Q : Fin → Shared → Prop} (D1 : Draws prog w A i1 fp1 n1 P1 S1) (D2 : Draws prog w A i2 fp2 n2 P2 S2) (D : Ap5 z TI TO i1 i2)
    (B : Ap2 z TO i1 i2 fp1 fp2) (hz : IsZip s.heap z TI TO .none) (hTI : IsPair s.heap TI (.ref i1) (.ref i2)) (hTO : IsPair s.heap TO a b) (h1 : S1 k s.heap) (h2 : S2 k s.heap) (hend : k = n1 ∨ (k < n1 ∧ k = n2))
    (hE : ∀ h' tk e, (∀ c o, c ≠ z → c ≠ TO → c ≠ i1 → c ≠ i2 → s.heap.get? c = some o → h'.get? c = some o) → (∃ o, h'.get? e = some o ∧ o.cls = .type "StopIteration") → E (.ref e) { s with heap := h', toks := tk }) :
    wpAny (model prog w) A (Builtin.«zip.__next__» ⟨[.ref z], []⟩) Q E s := by
  show wpAny _ _ (field (.ref z) 2 >>= _) _ _ _
  refine wpAny_bind (wpAny_field hz rfl (x := .bool false) rfl ?_)
  show wpAny _ _ (field (.ref z) 3 >>= _) _ _ _
  refine wpAny_bind (wpAny_field hz rfl (x := .ref TI) rfl (wpAny_bind (wpAny_seqItems hTI rfl ?_)))
  show wpAny _ _ (Builtin.SmallTypes.ownedTupleIsFree (.ref z) >>= _) _ _ _
  refine wpAny_bind ?_
  unfold Builtin.SmallTypes.ownedTupleIsFree
  refine wpAny_bind (wpAny_field hz rfl (x := .none) rfl (wpAny_pure ?_))
  simp only [if_true]
  refine wpAny_bind (wpAny_rule (wpAny_bind (wpAny_field hz rfl (x := .ref TO) rfl (wpAny_bind (wpAny_setField_rec hz (by simp) fun g1 hz1 e1 => ?_)))))
  have hz1 : IsZip g1 z TI TO .ellipsis := hz1
  refine wpAny_bind ?_
  simp only [List.zipIdx_cons, List.zipIdx_nil, List.forIn_cons, List.forIn_nil]
  refine wpAny_bind (wpAny_bind (wpAny_onRaise ?_))
  show wpAny _ _ (Builtin.SmallTypes.nextOf (.ref i1) >>= _) _ _ _
  rcases hend with hk | ⟨hk, hk2⟩
  · subst hk
    refine wpAny_bind (D1.done _ _ _ (D1.frame _ _ _ h1 fun q hq o eq => e1.extBut _ _ (fun zz => B.z1 (zz ▸ hq)) eq) fun g2 ev e2 he => ?_)
    obtain ⟨oe, hoe, hce⟩ := he
    have z2 : IsZip g2 z TI TO .ellipsis := e2 _ _ D.i1z.symm hz1
    have hez : ev ≠ z := fun q => by subst q; rw [z2] at hoe; cases hoe; simp at hce
    exact wpAny_setField_rec z2 (by simp) fun g3 _ e3 => hE g3 _ ev (fun c o n1 _ n3 _ q => e3.extBut _ _ n1 (e2 _ _ n3 (e1.extBut _ _ n1 q))) ⟨oe, e3.extBut _ _ hez hoe, hce⟩
  · refine wpAny_bind (D1.item k _ _ _ hk (D1.frame _ _ _ h1 fun q hq o eq => e1.extBut _ _ (fun zz => B.z1 (zz ▸ hq)) eq) fun v1 g2 tk2 p1 j1 e2 => wpAny_pure ?_)
    have o2 : IsPair g2 TO a b := e2.extBut _ _ D.TOi1 (e1.extBut _ _ D.TOz hTO)
    refine wpAny_bind (wpAny_seqItems o2 rfl (wpAny_bind (wpAny_updateSeq_pair o2 fun g3 o3 e3 => wpAny_bind (wpAny_letGo (wpAny_pure ?_)))))
    refine wpAny_bind (wpAny_bind (wpAny_onRaise ?_))
    show wpAny _ _ (Builtin.SmallTypes.nextOf (.ref i2) >>= _) _ _ _
    have h2' := D2.frame _ _ _ h2 fun q hq o eq => e3.extBut _ _ (fun zz => B.o2 (zz ▸ hq)) (e2.extBut _ _ (fun zz => B.i12 (zz ▸ hq)) (e1.extBut _ _ (fun zz => B.z2 (zz ▸ hq)) eq))
    rw [hk2] at h2'
    refine wpAny_bind (D2.done _ _ _ h2' fun g4 ev e4 he => ?_)
    obtain ⟨oe, hoe, hce⟩ := he
    have z4 : IsZip g4 z TI TO .ellipsis := e4 _ _ D.i2z.symm (e3.extBut _ _ D.TOz.symm (e2.extBut _ _ D.i1z.symm hz1))
    have hez : ev ≠ z := fun q => by subst q; rw [z4] at hoe; cases hoe; simp at hce
    exact wpAny_setField_rec z4 (by simp) fun g5 _ e5 => hE g5 _ ev (fun c o n1 n2 n3 n4 q => e5.extBut _ _ n1 (e4 _ _ n4 (e3.extBut _ _ n2 (e2.extBut _ _ n3 (e1.extBut _ _ n1 q))))) ⟨oe, e5.extBut _ _ hez hoe, hce⟩
theorem nextD_item {Q : Option Value → Shared → Prop} (D1 : Draws prog w A.in1 i1 fp1 n1 P1 S1) (D2 : Draws prog w A.in1 i2 fp2 n2 P2 S2) (D : Ap5 z TI TO i1 i2)
    (B : Ap2 z TO i1 i2 fp1 fp2) (hz : IsZip s.heap z TI TO .none) (hTI : IsPair s.heap TI (.ref i1) (.ref i2)) (hTO : IsPair s.heap TO a b) (h1 : S1 k s.heap) (h2 : S2 k s.heap) (hx : k < n1) (hy : k < n2)
    (hQ : ∀ h' tk v1 v2, P1 k v1 → P2 k v2 → IsZip h' z TI TO (rawInt s.heap.objs.size) → IsPair h' TO v1 v2 → S1 (k + 1) h' → S2 (k + 1) h' → IsPair h' s.heap.objs.size v1 v2 →
      (∀ e o, e ≠ z → e ≠ TO → e ≠ i1 → e ≠ i2 → s.heap.get? e = some o → h'.get? e = some o) → Q (some (.ref s.heap.objs.size)) { s with heap := h', toks := tk }) :
    wpAny (model prog w) A (pyNext (.ref z)) Q E s := by
  have hT : s.TypeIs (.ref z) "zip" := ⟨_, hz, rfl⟩
  unfold pyNext
  exact wpAny_bind (wpAny_attempt (wpAny_callSpecial?_slot (name := Str.ofString "__next__") hT F.slot_zip_next (wpAny_call_entry F.slot_zip_next hT F.entry_zip_next
    (zipD_item D1 D2 D B hz hTI hTO h1 h2 hx hy fun h' tk v1 v2 q1 q2 b1 b2 b3 b4 b5 b6 => wpAny_pure (hQ h' tk v1 v2 q1 q2 b1 b2 b3 b4 b5 b6)) (F.args_zip_next_1 _))))
theorem nextD_end {Q : Option Value → Shared → Prop} (D1 : Draws prog w A.in1 i1 fp1 n1 P1 S1) (D2 : Draws prog w A.in1 i2 fp2 n2 P2 S2) (D : Ap5 z TI TO i1 i2)
    (B : Ap2 z TO i1 i2 fp1 fp2) (hz : IsZip s.heap z TI TO .none) (hTI : IsPair s.heap TI (.ref i1) (.ref i2)) (hTO : IsPair s.heap TO a b) (h1 : S1 k s.heap) (h2 : S2 k s.heap) (hend : k = n1 ∨ (k < n1 ∧ k = n2))
    (hQ : ∀ h' tk, (∀ c o, c ≠ z → c ≠ TO → c ≠ i1 → c ≠ i2 → s.heap.get? c = some o → h'.get? c = some o) → Q none { s with heap := h', toks := tk }) : wpAny (model prog w) A (pyNext (.ref z)) Q E s := by
  have hT : s.TypeIs (.ref z) "zip" := ⟨_, hz, rfl⟩
  unfold pyNext
  refine wpAny_bind (wpAny_attempt (wpAny_callSpecial?_slot (name := Str.ofString "__next__") hT F.slot_zip_next (wpAny_call_entry F.slot_zip_next hT F.entry_zip_next
    (zipD_end D1 D2 D B hz hTI hTO h1 h2 hend fun h' tk e hk he => ?_) (F.args_zip_next_1 _))))
  obtain ⟨o, ho, hc⟩ := he
  refine wpAny_bind (wpAny_isInstance (T := "StopIteration") (b := true) ⟨o, ho, hc⟩ isSubtype_stop ?_)
  exact wpAny_pure (hQ _ _ hk)
end
end PySem
set_option Elab.async false
set_option linter.all false
set_option maxRecDepth 100000
namespace PySem
noncomputable abbrev zt1 (h : Heap) (p : Addr) : Heap := h.push { cls := .type "tuple_iterator", data := .fields #[.ref p, .int 0 0] }
noncomputable abbrev zt2 (h : Heap) (p q : Addr) : Heap := (zt1 h p).push { cls := .type "list_iterator", data := .fields #[.ref q, .int 0 0] }
noncomputable abbrev zt3 (h : Heap) (p q : Addr) : Heap := (zt2 h p q).push { cls := .type "tuple", data := .seq #[.ref h.objs.size, .ref (zt1 h p).objs.size] }
noncomputable abbrev zt4 (h : Heap) (p q : Addr) : Heap := (zt3 h p q).push { cls := .type "tuple", data := .seq #[.none, .none] }
noncomputable abbrev zt5 (h : Heap) (p q : Addr) : Heap := (zt4 h p q).push { cls := .type "zip", data := .fields #[.none, .bool false, .bool false, .ref (zt2 h p q).objs.size, .ref (zt3 h p q).objs.size] }
set_option maxHeartbeats 2000000 in
theorem meets_zipTL (p q : Addr) (xs ys : Array Value) : Meets (Builtin.«zip.__new__» ⟨[.type "zip", .ref p, .ref q], []⟩) (fun _ R s => s.heap.IsTuple p xs ∧ s.heap.IsList q ys ∧ R (.ok (.ret (.ref (zt4 s.heap p q).objs.size))) { s with heap := zt5 s.heap p q }) :=
  .of_wp fun prog w A R s h => by
    obtain ⟨hp, gg, dd, tk, os⟩ := s
    obtain ⟨t1, t2, h⟩ := h
    have hsub := sub_zip
    have T1 : Heap.IsTuple (Shared.heap ⟨hp, gg, dd, tk, os⟩) p xs := t1
    have T2 : Heap.IsList (Shared.heap ⟨hp.push { cls := .type "tuple_iterator", data := .fields #[.ref p, .int 0 0] }, gg, dd, tk, os⟩) q ys := Heap.IsList.push t2 _
    wp_walk using wpAny_pyIter_tuple T1, wpAny_pyIter_list T2
    exact ⟨_, rfl, h⟩
theorem call_zipTL {prog : Program} {w : World} {A : Around} {E : Value → Shared → Prop} {s : Shared} {p q : Addr} {xs ys : Array Value} {Q : Value → Shared → Prop} (hx : s.heap.IsTuple p xs) (hy : s.heap.IsList q ys)
    (h : ∀ h', IsZip h' (s.heap.objs.size + 4) (s.heap.objs.size + 2) (s.heap.objs.size + 3) .none → IsPair h' (s.heap.objs.size + 2) (.ref s.heap.objs.size) (.ref (s.heap.objs.size + 1)) → IsPair h' (s.heap.objs.size + 3) .none .none →
      h'.IsTupleIter s.heap.objs.size p 0 → h'.IsListIter (s.heap.objs.size + 1) q 0 → (∀ c o, s.heap.get? c = some o → h'.get? c = some o) → Q (.ref (s.heap.objs.size + 4)) { s with heap := h' }) :
    wpAny (model prog w) A (call (.type "zip") [.ref p, .ref q]) Q E s := by
  refine callType_new F.called_zip (by decide) (F.typeCall_zip_2 _ _) (F.newCall_zip_2 _ _) (fun obj => F.args_object_init_3 obj _ _) F.entry_zip_new (meets_zipTL p q xs ys) ⟨hx, hy, ?_⟩
  have n1 : (zt1 s.heap p).objs.size = s.heap.objs.size + 1 := Heap.size_push ..
  have n2 : (zt2 s.heap p q).objs.size = s.heap.objs.size + 2 := by rw [Heap.size_push, n1]
  have n3 : (zt3 s.heap p q).objs.size = s.heap.objs.size + 3 := by rw [Heap.size_push, n2]
  have n4 : (zt4 s.heap p q).objs.size = s.heap.objs.size + 4 := by rw [Heap.size_push, n3]
  have g5 : (zt5 s.heap p q).get? (zt4 s.heap p q).objs.size = some _ := Heap.get?_push_size _ rfl
  have g4 : (zt5 s.heap p q).get? (zt3 s.heap p q).objs.size = some _ := Heap.get?_push_of_some _ (Heap.get?_push_size _ rfl)
  have g3 : (zt5 s.heap p q).get? (zt2 s.heap p q).objs.size = some _ := Heap.get?_push_of_some _ (Heap.get?_push_of_some _ (Heap.get?_push_size _ rfl))
  have g2 : (zt5 s.heap p q).get? (zt1 s.heap p).objs.size = some _ := Heap.get?_push_of_some _ (Heap.get?_push_of_some _ (Heap.get?_push_of_some _ (Heap.get?_push_size _ rfl)))
  have g1 : (zt5 s.heap p q).get? s.heap.objs.size = some _ := Heap.get?_push_of_some _ (Heap.get?_push_of_some _ (Heap.get?_push_of_some _ (Heap.get?_push_of_some _ (Heap.get?_push_size _ rfl))))
  show _ ∧ _
  rw [n2, n3, n4] at g5
  rw [n1, n2] at g3
  rw [n3] at g4
  rw [n1] at g2
  rw [n4]
  exact ⟨⟨_, g5, rfl⟩, h _ g5 g3 g4 ⟨_, g1, rfl, rfl⟩ ⟨_, g2, rfl, rfl⟩ fun c o q => Heap.get?_push_of_some _ (Heap.get?_push_of_some _ (Heap.get?_push_of_some _ (Heap.get?_push_of_some _ (Heap.get?_push_of_some _ q))))⟩
end PySem
namespace L2
open PySem PySem.Spec PyProof.Rows Wd
noncomputable def Itzt (K : PySem.W.Frag) (p q : Addr) : It := ⟨fun i H => ∃ xs ys x y, SqT K H p xs ∧ SqL K H q ys ∧ xs[i]? = some x ∧ ys[i]? = some y,
  fun i H v H' => ∃ (T : Addr) (x y : V), H T = none ∧ v = .ref T ∧ (∀ xs, SqT K H p xs → xs[i]? = some x) ∧ (∀ ys, SqL K H q ys → ys[i]? = some y) ∧ H' = upd H T (.tup [x, y]),
  fun i H => ∃ xs ys, SqT K H p xs ∧ SqL K H q ys ∧ i = min xs.length ys.length⟩
theorem far {s : Shared} {z TI TO i1 i2 p q : Addr} {a c : Value} {i : Nat} {xs ys : Array Value} (D : Ap5 z TI TO i1 i2) (s1 : IsZip s.heap z TI TO .none) (s2 : IsPair s.heap TI (.ref i1) (.ref i2)) (s3 : IsPair s.heap TO a c) (s4 : s.heap.IsTupleIter i1 p i) (s5 : s.heap.IsListIter i2 q i)
    (p1 : IsTup s.heap p xs) (p2 : s.heap.IsList q ys) (hTO : p ≠ TO) : (p ≠ i1 ∧ q ≠ i2) ∧ Ap2 z TO i1 i2 [i1, p] [i2, q] := by
  obtain ⟨o1, g1, c1, _⟩ := s4
  obtain ⟨o2, g2, c2, _⟩ := s5
  obtain ⟨o3, g3, c3, _⟩ := p1
  obtain ⟨o4, g4, c4, _⟩ := p2
  have n1 : p ≠ i1 := fun e => by rw [e, g1] at g3; cases g3; rw [c1] at c3; simp at c3
  have n2 : q ≠ i2 := fun e => by rw [e, g2] at g4; cases g4; rw [c2] at c4; simp at c4
  have n3 : p ≠ z := fun e => by rw [e, s1] at g3; cases g3; simp at c3
  have n4 : q ≠ z := fun e => by rw [e, s1] at g4; cases g4; simp at c4
  have n5 : q ≠ TO := fun e => by rw [e, s3] at g4; cases g4; simp at c4
  have n6 : q ≠ i1 := fun e => by rw [e, g1] at g4; cases g4; rw [c1] at c4; simp at c4
  have n7 : p ≠ i2 := fun e => by rw [e, g2] at g3; cases g3; rw [c2] at c3; simp at c3
  refine ⟨⟨n1, n2⟩, ?_, ?_, ?_, ?_, ?_, ?_⟩ <;> simp only [List.mem_cons, List.not_mem_nil, or_false, not_or]
  · exact ⟨D.i1z.symm, n3.symm⟩
  · exact ⟨D.i2z.symm, n4.symm⟩
  · exact ⟨D.TOi1, hTO.symm⟩
  · exact ⟨D.TOi2, n5.symm⟩
  · exact ⟨D.i12, n6.symm⟩
  · exact ⟨D.i12.symm, n7.symm⟩
theorem turn_zipTL {P : Program} {w : World} {K : PySem.W.Frag} {elts : List Expr} {k : Nat} {pos : Pos} {z TI TO i1 i2 : Addr} {p q : Addr} (D : Ap5 z TI TO i1 i2) (hTO : p ≠ TO) :
    Turn P w K (.Tuple elts k pos) (Itzt K p q) [z, TI, TO, i1, i2] z (fun i h => IsZip h z TI TO .none ∧ IsPair h TI (.ref i1) (.ref i2) ∧ (∃ a b, IsPair h TO a b) ∧ h.IsTupleIter i1 p i ∧ h.IsListIter i2 q i) where
  mem := by simp
  obj := fun i h st b hb => by
    obtain ⟨s1, s2, ⟨a, c, s3⟩, ⟨o1, s4, _, d4⟩, ⟨o2, s5, _, d5⟩⟩ := st
    simp only [List.mem_cons, List.not_mem_nil, or_false] at hb
    rcases hb with rfl | rfl | rfl | rfl | rfl
    · exact ⟨_, s1, fun v q => by cases q⟩
    · exact ⟨_, s2, fun v q => by cases q⟩
    · exact ⟨_, s3, fun v q => by cases q⟩
    · exact ⟨_, s4, fun v q => by rw [d4] at q; cases q⟩
    · exact ⟨_, s5, fun v q => by rw [d5] at q; cases q⟩
  keep := fun i h h' st kk => by
    obtain ⟨s1, s2, ⟨a, c, s3⟩, ⟨o1, s4, r4⟩, ⟨o2, s5, r5⟩⟩ := st
    exact ⟨kk z (by simp) _ s1, kk TI (by simp) _ s2, ⟨a, c, kk TO (by simp) _ s3⟩, ⟨o1, kk i1 (by simp) _ s4, r4⟩, ⟨o2, kk i2 (by simp) _ s5, r5⟩⟩
  item := by
    intro X hP hw hK hc i pins s σ H E I hf st hg
    subst hP hw hK
    obtain ⟨xs, ys, vx, vy, hq1, hq2, hx, hy⟩ := hg
    obtain ⟨its1, rv1, p1, hz1⟩ := I.tuple hq1
    obtain ⟨its2, rv2, p2, hz2⟩ := I.list hq2
    obtain ⟨u1, hu1, ru1⟩ := rv1.get hx
    obtain ⟨u2, hu2, ru2⟩ := rv2.get hy
    obtain ⟨s1, s2, ⟨a, c, s3⟩, s4, s5⟩ := st
    have hu1' : its1.toArray[i]? = some u1 := by simpa using hu1
    have hu2' : its2.toArray[i]? = some u2 := by simpa using hu2
    obtain ⟨np1, np2⟩ := far D s1 s2 s3 s4 s5 p1 p2.isList hTO
    refine nextD_item (drawsT (by exact I.ok.hd hc) i1 p np1.1 its1.toArray) (Draws.list (by exact I.ok.hd hc) i2 q np1.2 its2.toArray) D np2 s1 s2 s3 ⟨s4, p1⟩ ⟨s5, p2.isList⟩ (Array.getElem?_eq_some_iff.mp hu1').1 (Array.getElem?_eq_some_iff.mp hu2').1 fun h' tk v1 v2 w1 w2 b1 b2 b3 b4 b5 b6 => ⟨_, rfl, ?_⟩
    obtain rfl : u1 = v1 := by rw [show its1.toArray[i]? = some v1 from w1] at hu1'; exact (Option.some.inj hu1').symm
    obtain rfl : u2 = v2 := by rw [show its2.toArray[i]? = some v2 from w2] at hu2'; exact (Option.some.inj hu2').symm
    refine wpAny_letOwnedTupleGo_zip b1 fun h2 c1' e2 => ?_
    have there : ∀ b ∈ [z, TI, TO, i1, i2], ∃ o, s.heap.get? b = some o := fun b hb => by
      obtain ⟨o1, q4, _⟩ := s4
      obtain ⟨o2, q5, _⟩ := s5
      simp only [List.mem_cons, List.not_mem_nil, or_false] at hb
      rcases hb with rfl | rfl | rfl | rfl | rfl
      · exact ⟨_, s1⟩
      · exact ⟨_, s2⟩
      · exact ⟨_, s3⟩
      · exact ⟨_, q4⟩
      · exact ⟨_, q5⟩
    have kk : ∀ b o, b ∉ [z, TI, TO, i1, i2] → s.heap.get? b = some o → h2.get? b = some o := fun b o hb e => by
      simp only [List.mem_cons, List.not_mem_nil, or_false, not_or] at hb
      exact e2.extBut _ _ hb.1 (b6 b o hb.1 hb.2.2.1 hb.2.2.2.1 hb.2.2.2.2 e)
    have hTz : s.heap.objs.size ≠ z := Nat.ne_of_gt (Heap.lt_size s1)
    have I2 : Inv X pins σ (upd H s.heap.objs.size (.tup [vx, vy])) { s with heap := h2, toks := tk } :=
      I.stepT (ch := [z, TI, TO, i1, i2]) (its := [u1, u2]) hf kk (Nat.le_refl _) (by show 2 ≤ sizeLine; decide) (.cons ru1 (.cons ru2 .nil)) ⟨_, e2.extBut _ _ hTz b5, rfl, _, rfl⟩ there
    have hnT : H s.heap.objs.size = none := I.hok.fresh (Nat.le_refl _)
    have sTI : IsPair h2 TI (.ref i1) (.ref i2) := e2.extBut _ _ D.TIz (b6 _ _ D.TIz D.TITO D.TIi1 D.TIi2 s2)
    refine ⟨.ref s.heap.objs.size, _, I2, rfl, ⟨s.heap.objs.size, vx, vy, hnT, rfl, fun zs hz => by rw [I.tuple_inj hz hq1]; exact hx, fun zs hz => by rw [I.list_inj hz hq2]; exact hy, rfl⟩,
      ⟨c1', sTI, ⟨_, _, e2.extBut _ _ D.TOz b2⟩, b3.1.at fun o q => e2.extBut _ _ D.i1z q, b4.1.at fun o q => e2.extBut _ _ D.i2z q⟩, fun b hb => ?_⟩
    obtain ⟨o, q⟩ := there b hb
    rw [upd_ne (Nat.ne_of_lt (Heap.lt_size q))]
    exact (hf b hb).1
  done := by
    intro X hP hw hK hc i pins s σ H E I hf st hg
    subst hP hw hK
    obtain ⟨xs, ys, hq1, hq2, hi⟩ := hg
    obtain ⟨its1, rv1, p1, hz1⟩ := I.tuple hq1
    obtain ⟨its2, rv2, p2, hz2⟩ := I.list hq2
    have hl1 := rv1.length
    have hl2 := rv2.length
    obtain ⟨s1, s2, ⟨a, c, s3⟩, s4, s5⟩ := st
    obtain ⟨np1, np2⟩ := far D s1 s2 s3 s4 s5 p1 p2.isList hTO
    refine nextD_end (drawsT (by exact I.ok.hd hc) i1 p np1.1 its1.toArray) (Draws.list (by exact I.ok.hd hc) i2 q np1.2 its2.toArray) D np2 s1 s2 s3 ⟨s4, p1⟩ ⟨s5, p2.isList⟩ ?_ fun h' tk kk => ⟨rfl, ?_⟩
    · simp only [List.size_toArray]
      omega
    · have nch : ∀ {b u}, H b = some u → b ∉ [z, TI, TO, i1, i2] := fun e q => by rw [(hf _ q).1] at e; cases e
      have k2 : ∀ b o, b ∉ [z, TI, TO, i1, i2] → s.heap.get? b = some o → h'.get? b = some o := fun b o hb e => by
        simp only [List.mem_cons, List.not_mem_nil, or_false, not_or] at hb
        exact kk b o hb.1 hb.2.2.1 hb.2.2.2.1 hb.2.2.2.2 e
      refine I.step (g' := s.gens) (d' := s.drawn) (ch := [z, TI, TO, i1, i2]) (fun b hb => ?_) (fun b o _ _ hc e _ => k2 b o hc e) (fun b o _ _ hc e _ => ⟨o.slots, k2 b o hc e⟩) (fun _ _ _ _ n => n) (fun b o hc e => ⟨o, k2 b o hc e⟩)
        (fun _ _ e => e) (fun _ _ _ e => e) (fun b ps e => ⟨#[], by rw [e]; simp⟩) (fun m hm => ?_) (fun b u e => ?_) I.bare
      · obtain ⟨_, f1, _, f3, f4, f5⟩ := hf b hb
        exact ⟨f3, f1, f4, f5⟩
      · obtain ⟨o, es, ep, ho, r⟩ := hm
        exact ⟨o, es, ep, k2 _ o (fun q => (hf _ q).2.1 rfl) ho, r⟩
      · refine (I.hok b u e).stay (fun c v hc q => k2 c v ?_ q) (fun _ q => q) fun _ _ q => q
        rcases hc with q | q
        · rw [q]; exact nch e
        · exact nch q
  self := fun _ _ _ _ _ st h => wpAny_pyIter_zip st.1 h
section
variable {X : Cx}
noncomputable def iZipTL (K : PySem.W.Frag) (ta : TA) : TI := fun σ H R => ta σ H fun vs H1 => ∃ p q, vs = [.ref p, .ref q] ∧ (∃ xs, SqT K H1 p xs) ∧ (∃ ys, SqL K H1 q ys) ∧ R (Itzt K p q) H1
theorem pi_zipTL {K : PySem.W.Frag} (hK : X.K = K) {a b : Expr} {ta : TA} {p pos tp : Pos} {elts : List Expr} {k : Nat} (hg : Gl X "zip") (hm : X.mg "zip" = none) (hb : bootBuiltins "zip" = some (.type "zip")) (ha : PA X [a, b] ta) (hs : starEach [a, b] X.env = (false, eval a X.env) :: starEach [b] X.env := by rfl) (hs2 : (backTo pos (starEach [b] X.env)).any (·.1) = false := by rfl) :
    PI X (.Tuple elts k tp) (.Call (.Name "zip" p) [a, b] [] pos) (iZipTL K ta) := by
  subst hK
  intro pins s σ H R I h
  refine Call_ (ld_blt I hg hm hb (PyProof.Rows.callWith_type1 (thn (ha pos pins s σ H _ I h) fun us s1 zq1 => ?_) hs hs2))
  obtain ⟨vs, H1, I1, r1, q1⟩ := zq1
  obtain ⟨l1, l2, rfl, ⟨xs, hx⟩, ⟨ys, hy⟩, q⟩ := q1
  obtain ⟨u1, u2, rfl, r3, r4⟩ := vals2 r1
  cases r3
  cases r4
  obtain ⟨its1, rv1, p1, hz1⟩ := I1.tuple hx
  obtain ⟨its2, rv2, p2, hz2⟩ := I1.list hy
  refine call_zipTL p1 p2.isList fun h' b1 b2 b3 b4 b5 b6 => ?_
  have I2 : Inv X pins σ H1 { s1 with heap := h', toks := s1.toks } := I1.kept b6
  have hlt : l1 < s1.heap.objs.size := by obtain ⟨o, e, _⟩ := p1; exact Heap.lt_size e
  refine wpAny_pyIter_zip (s := { s1 with heap := h', toks := s1.toks }) b1 ?_
  refine ⟨s1.heap.objs.size + 4, [s1.heap.objs.size + 4, s1.heap.objs.size + 2, s1.heap.objs.size + 3, s1.heap.objs.size, s1.heap.objs.size + 1], _, Itzt X.K l1 l2, H1, rfl, I2,
    turn_zipTL (ap5_mk s1.heap.objs.size) (Nat.ne_of_lt (Nat.lt_of_lt_of_le hlt (Nat.le_add_right _ _))), ⟨b1, b2, ⟨_, _, b3⟩, b4, b5⟩, fun b hb => ?_, q⟩
  have hge : s1.heap.objs.size ≤ b := by
    simp only [List.mem_cons, List.not_mem_nil, or_false] at hb
    rcases hb with rfl | rfl | rfl | rfl | rfl <;> omega
  exact I1.fpOk hge (I1.hok.fresh hge)
end
theorem for_zipTL {K : PySem.W.Frag} {p q : Addr} {xs ys : List V} {g : TG} {tb : TS} {D : Ends} {σ : St} {H : Hp} (Pv : Nat → St → Hp → Prop) (h0 : Pv 0 σ H) (hl : ∀ i σ H, Pv i σ H → SqT K H p xs ∧ SqL K H q ys)
    (hs : ∀ i x y σ H T, xs[i]? = some x → ys[i]? = some y → Pv i σ H → H T = none → g (.ref T) σ (upd H T (.tup [x, y])) fun σ2 H2 => tb { D with nx := Pv (i + 1), ct := Pv (i + 1), bk := D.nx } σ2 H2) (hd : ∀ σ H, Pv (min xs.length ys.length) σ H → D.nx σ H) :
    ∃ W : Nat → Nat → St → Hp → Prop, (∃ m, W 0 m σ H) ∧ ∀ i m σ H, W i m σ H →
      ((Itzt K p q).stop i H ∧ D.nx σ H) ∨ ((Itzt K p q).go i H ∧ ∃ N : St → Hp → Prop, (∀ σ' H', N σ' H' → ∃ m', m' < m ∧ W (i + 1) m' σ' H') ∧ ∀ x H', (Itzt K p q).yld i H x H' → g x σ H' fun σ2 H2 => tb { D with nx := N, ct := N, bk := D.nx } σ2 H2) := by
  refine ⟨fun i m σ H => m = min xs.length ys.length - i ∧ i ≤ min xs.length ys.length ∧ Pv i σ H, ⟨min xs.length ys.length, by simp, Nat.zero_le _, h0⟩, ?_⟩
  rintro i m σ H ⟨rfl, hi, pv⟩
  obtain ⟨q1, q2⟩ := hl i σ H pv
  by_cases hlt : i < min xs.length ys.length
  · refine .inr ⟨⟨xs, ys, xs[i], ys[i], q1, q2, List.getElem?_eq_getElem (by omega), List.getElem?_eq_getElem (by omega)⟩, Pv (i + 1), fun σ' H' p' => ⟨min xs.length ys.length - (i + 1), by omega, rfl, hlt, p'⟩, ?_⟩
    rintro v H' ⟨T, x, y, hT, rfl, hx, hy, rfl⟩
    exact hs i x y σ _ T (hx xs q1) (hy ys q2) pv hT
  · obtain rfl : i = min xs.length ys.length := by omega
    exact .inl ⟨⟨xs, ys, q1, q2, rfl⟩, hd σ H pv⟩
end L2
set_option Elab.async false
set_option linter.all false
set_option maxRecDepth 100000
namespace L2
open PySem PySem.Spec PyProof.Rows Wd
section
variable {X : Cx}
noncomputable def tKGetR (K : PySem.W.Frag) (a : Addr) (ti : TE) : TE := fun σ H Q => ti σ H fun y H1 => ∃ z b, y = .str z ∧ PySem.W.nsIn K a z = some (some (.ref b)) ∧ Q (.ref b) H1
theorem pe_kgetR {K : PySem.W.Frag} {w : World} {a : Addr} {x : Str} {i : Expr} {ti : TE} {p pos : Pos} (D : DTx K w a) (hK : X.K = K) (hw : X.w = w) (hg : Gl X x) (hm : X.mg x = some (.ref a)) (hi : PE X i ti) (hs : PlainIx i)
    (hd : (x == ("__debug__" : Str)) = false := by decide) : PE X (.Subscript (.Name x p) i pos) (tKGetR K a ti) := by
  subst hK hw
  intro pins s σ H Q I h
  refine Subscript_ (ld_glob I hg hm (thn (hi pins s σ H _ I h) fun u s2 zq1 => ?_) hd)
  obtain ⟨y, H2, I2, ry, z, b, e1, e2, q⟩ := zq1
  subst e1
  obtain ⟨t, rfl⟩ := ry
  obtain ⟨es, n, hl, hk⟩ := D.ob
  obtain ⟨m, F⟩ := I2.fr
  exact PySem.W.topItem_K F I2.ok.mod.kin hl hk e2 ⟨.ref b, H2, I2.tok _, rfl, q⟩ (hs _ _)
noncomputable def tKNot (K : PySem.W.Frag) (a : Addr) (to : TE) : TT := fun σ H Q => to σ H fun y H1 => ∃ (z : Str) (r : Option Value), y = .str z ∧ PySem.W.nsIn K a z = some r ∧ Q (!r.isSome) H1
theorem topNot {prog : Program} {w : World} {A : Around} {E : Value → Shared → Prop} {s : Shared} {K : PySem.W.Frag} {h₀ : Heap} {L a : Addr} {m : Str → Option Value} {es : Array DictEntry} {n : Nat} {x : Str} {t : Tok} {r : Option Value} {Q : Value → Shared → Prop} (F : Fr h₀ L s.heap m) (X₀ : K.In h₀) (hl : K.lookup a = some ⟨.type "dict", none, .dict es n, #[]⟩) (hk : PySem.W.KeysLit w.params es.toList)
    (e : PySem.W.nsIn K a x = some r) (lo : (a == sysModules) = false) (h : Q (.bool (!r.isSome)) { s with toks := s.toks + 1 }) : wpAny (model prog w) A (compareOp .NotIn (.str x t) (.ref a)) Q E s := by
  refine wpAny_notIn_of (strKind_is prog w x t) lo (PySem.W.mapOf_K (prog := prog) (X₀.keeps F.keep) hl hk) ?_
  rw [PySem.W.find_K hl e]
  cases r <;> exact h
theorem pt_knot {K : PySem.W.Frag} {w : World} {a : Addr} {x : Str} {o : Expr} {to : TE} {p pos : Pos} (D : DTx K w a) (hK : X.K = K) (hw : X.w = w) (hlo : (a == sysModules) = false) (hg : Gl X x) (hm : X.mg x = some (.ref a)) (ho : PE X o to)
    (hd : (x == ("__debug__" : Str)) = false := by decide) : PT X (.Compare o [.NotIn] [.Name x p] pos) (tKNot K a to) := by
  subst hK hw
  intro pins s σ H Q I h
  refine wpAny_isTrue_Compare1 (thn (ho pins s σ H _ I h) fun v s1 ⟨y, H1, I1, ry, z, r, e1, e2, q⟩ => ld_glob I1 hg hm ?_ hd) rfl
  subst e1
  obtain ⟨t, rfl⟩ := ry
  obtain ⟨es, n, hl, hk⟩ := D.ob
  obtain ⟨m, F⟩ := I1.fr
  exact topNot F I1.ok.mod.kin hl hk e2 hlo (wpAny_truthy_bool ⟨H1, I1.tok _, q⟩)
noncomputable def rSplit : V → List V → Hp → VK → Prop := fun x vs H Q => ∃ z y, x = .str z ∧ vs = [.str y] ∧ (y.length == 0) = false ∧ z.length < 1000000 ∧ (Txt.split z y).length < 1000000 ∧ ∀ p, H p = none → Q (.ref p) (upd H p (.lst ((Txt.split z y).map V.str)))
theorem vals_nums : ∀ (t : Nat) (ys : List Str), Vals (ys.map V.str) (strValues (numbered t ys))
  | _, [] => .nil
  | t, y :: r => .cons ⟨_, rfl⟩ (vals_nums _ r)
theorem mt_split : MtR X "str.split" rSplit := by
  intro pins s σ H x vs v us Q I rx rv h
  obtain ⟨z, y, rfl, rfl, hy, hz, hn, q⟩ := h
  obtain ⟨t, rfl⟩ := rx
  obtain ⟨u1, rfl, ⟨t1, rfl⟩⟩ := vals1 rv
  have l16 := sizeLine_eq
  have fin : ∀ (its : List Value) (tk : Nat), Vals ((Txt.split z y).map V.str) its → EP X pins σ Q (.ref s.heap.objs.size) { s with heap := s.heap.push { cls := .type "list", data := .seq its.toArray }, toks := tk } := fun its tk hv =>
    ⟨.ref s.heap.objs.size, _, I.laid (fun b o e => Heap.get?_push_of_some _ e) (Nat.le_refl _) (show ObjOk X.prog X.w _ _ _ (.lst ((Txt.split z y).map V.str)) from ⟨by rw [List.length_map]; omega, its, 0, hv, Heap.get?_push_size _ rfl⟩), rfl, q _ (I.hok.fresh (Nat.le_refl _))⟩
  have hsp : Txt.split z y = (if (decide (z.length < y.length) || decide (Builtin.Str.strKind z < Builtin.Str.strKind y)) = true then [z] else if (Builtin.Str.occurrences z y 0 z.length (z.length + 1)).isEmpty = true then [z] else Builtin.Str.partsBetween z (Builtin.Str.occurrences z y 0 z.length (z.length + 1)) y.length) := rfl
  cases h1 : (decide (z.length < y.length) || decide (Builtin.Str.strKind z < Builtin.Str.strKind y))
  · cases hf : (Builtin.Str.occurrences z y 0 z.length (z.length + 1)).isEmpty
    · rw [if_neg (ne_true_of_eq_false h1), if_neg (ne_true_of_eq_false hf)] at hsp
      have hn2 := hn
      rw [hsp] at hn2
      refine call_meets F.slot_str_split (typeIs_str _ _ _) F.entry_str_split (F.args_str_split_2 _ _) (meets_str_split_sep z y t t1 h1 hy hf (by omega) (by omega)) ?_
      show wants _ _ _ { s with toks := _, heap := s.heap.push { cls := .type "list", data := .seq (strsFrom s.toks (Builtin.Str.partsBetween z (Builtin.Str.occurrences z y 0 z.length (z.length + 1)) y.length)).toArray } }
      rw [strsFrom_eq]
      refine fin _ _ ?_
      rw [hsp]
      exact vals_nums _ _
    · rw [if_neg (ne_true_of_eq_false h1), if_pos hf] at hsp
      refine call_meets F.slot_str_split (typeIs_str _ _ _) F.entry_str_split (F.args_str_split_2 _ _) (meets_str_split_not_found z y t t1 h1 hy hf) (fin [.str z t] s.toks ?_)
      rw [hsp]
      exact .cons ⟨_, rfl⟩ .nil
  · rw [if_pos h1] at hsp
    refine call_meets F.slot_str_split (typeIs_str _ _ _) F.entry_str_split (F.args_str_split_2 _ _) (meets_str_split_cannot_occur z y t t1 h1) (fin [.str z t] s.toks ?_)
    rw [hsp]
    exact .cons ⟨_, rfl⟩ .nil
theorem call_int_text : CallR X (.type "int") (fun xs H Q => ∃ z n, xs = [.str z] ∧ PySem.intText? z = some n ∧ z.length ≤ 640 ∧ Q (.int n) H) := by
  intro pins s σ H xs us Q I r h
  obtain ⟨z, n, rfl, hn, hl, q⟩ := h
  obtain ⟨u, rfl, t, rfl⟩ := vals1 r
  exact PySem.W.KIN.call_text hn hl ⟨.int n, H, I.tok _, ⟨_, rfl⟩, q⟩
theorem call_strV : CallR X (.type "str") (fun xs H Q => (∃ i, xs = [.int i] ∧ i.natAbs.log2 < 1920 ∧ Q (.str (toString i)) H) ∨ ∃ z, xs = [.str z] ∧ Q (.str z) H) := by
  intro pins s σ H xs us Q I r h
  rcases h with ⟨i, rfl, hz, q⟩ | ⟨z, rfl, q⟩
  · exact call_str_int pins s σ H _ us Q I r ⟨i, rfl, hz, q⟩
  · obtain ⟨u, rfl, t, rfl⟩ := vals1 r
    exact PySem.P.str_of_str ⟨.str z, H, I, ⟨_, rfl⟩, q⟩
end
end L2
set_option Elab.async false
set_option linter.all false
set_option maxRecDepth 100000
set_option maxHeartbeats 0
namespace Kx
open PySem PySem.Spec PyProof.Rows L2 Wd
noncomputable def jn (yl : List Nat) : List (List Nat) → List Nat
  | [] => []
  | [p] => p
  | p :: q :: r => p ++ yl ++ jn yl (q :: r)
theorem join_cps (y : Str) : ∀ ps : List Str, (Str.join y ps).cps.toList = jn y.cps.toList (ps.map (·.cps.toList))
  | [] => rfl
  | [p] => rfl
  | p :: q :: r => by
    have ih := join_cps y (q :: r)
    show (p ++ y ++ Str.join y (q :: r)).cps.toList = p.cps.toList ++ y.cps.toList ++ jn y.cps.toList ((q :: r).map (·.cps.toList))
    rw [← ih]
    show ((p.cps ++ y.cps) ++ (Str.join y (q :: r)).cps).toList = _
    rw [Array.toList_append, Array.toList_append]
inductive Stp where
  | out (n : Nat)
  | inn (n : Nat) (x : L)
  | rng (n : Nat) (u : List L) (m : Nat)
noncomputable def Stp.Ok : Stp → Prop
  | .out n => n < 10000
  | .inn n _ => n < 10000
  | .rng n u m => n < 10000 ∧ u ≠ [] ∧ u.length ≤ 12 ∧ m < 10000
noncomputable def Stp.hd : Stp → Str
  | .out _ => "out"
  | .inn _ _ => "in"
  | .rng _ _ _ => "ring"
noncomputable def Stp.form : Stp → List Str
  | .out _ => ["number"]
  | .inn _ _ => ["number", "letter"]
  | .rng _ _ _ => ["number", "turn", "number"]
noncomputable def Stp.args : Stp → List V
  | .out n => [.int n]
  | .inn n x => [.int n, tx [x]]
  | .rng n u m => [.int n, tx u, .int m]
noncomputable def Stp.vs (s : Stp) : List V := .str s.hd :: s.args
noncomputable def strV : V → Str
  | .int i => Str.ofString (toString i)
  | .str z => z
  | _ => ""
noncomputable def Stp.ws (s : Stp) : List Str := s.vs.map strV
theorem nS_good (n : Nat) : ∀ c ∈ (Str.ofString (toString (n : Int))).cps.toList, 48 ≤ c ∧ c ≤ 57 := by
  intro c hc
  rw [PySem.W.KIN.signs_num] at hc
  obtain ⟨ch, hch, e⟩ := List.mem_map.mp hc
  have r := digit_range (Nat.isDigit_of_mem_toDigits (by decide) (by decide) hch)
  rw [← e]
  exact r
theorem nS_len {n : Nat} (h : n < 10000) : 1 ≤ (Str.ofString (toString (n : Int))).length ∧ (Str.ofString (toString (n : Int))).length ≤ 4 := by
  have e : (Str.ofString (toString (n : Int))).length = (Nat.toDigits 10 n).length := by
    show (Str.ofString (toString (n : Int))).cps.size = _
    rw [← Array.length_toList, PySem.W.KIN.signs_num, List.length_map]
  rw [e]
  exact ⟨toDigits_len_ge 10 n, toDigits_len_pow (by decide) (by decide) (by show n < 10 ^ 4; exact h)⟩
theorem dig_head : ∀ n : Nat, n ≠ 0 → ∀ d r, Nat.toDigits 10 n = d :: r → d.toNat ≠ 48 := by
  intro n
  induction n using Nat.strongRecOn with
  | _ n ih =>
    intro h0 d r e
    by_cases h : n < 10
    · rw [Nat.toDigits_of_lt_base h] at e
      have : d = Nat.digitChar n := (List.cons.inj e).1.symm
      rw [this]
      revert h0
      have q : ∀ k : Fin 10, k.val ≠ 0 → (Nat.digitChar k.val).toNat ≠ 48 := by decide
      exact q ⟨n, h⟩
    · have hm : n % 10 < 10 := Nat.mod_lt n (by decide)
      have t : Nat.toDigits 10 (n / 10) ++ Nat.toDigits 10 (n % 10) = Nat.toDigits 10 (10 * (n / 10) + n % 10) := Nat.toDigits_append_toDigits (by decide) (by omega) hm
      rw [Nat.div_add_mod, e] at t
      cases hq : Nat.toDigits 10 (n / 10) with
      | nil => have := toDigits_len_ge 10 (n / 10); rw [hq] at this; exact absurd this (by decide)
      | cons d2 r2 =>
        rw [hq] at t
        have : d2 = d := (List.cons.inj t).1
        subst this
        exact ih (n / 10) (by omega) (by omega) d2 r2 hq
theorem c_out : ("out" : Str).cps.toList = [111, 117, 116] := by decide +kernel
theorem c_in : ("in" : Str).cps.toList = [105, 110] := by decide +kernel
theorem c_ring : ("ring" : Str).cps.toList = [114, 105, 110, 103] := by decide +kernel
end Kx
namespace L2
open PySem PySem.Spec PyProof.Rows Wd
section
variable {X : Cx} {tg : Expr}
end
end L2
namespace Kx
open PySem PySem.Spec PyProof.Rows L2 Wd
noncomputable def dV : V → PyData
  | .int i => .int i
  | .str z => .str z
  | _ => .none
noncomputable def Stp.dt (s : Stp) : PyData := .tuple (s.vs.map dV)
end Kx
set_option Elab.async false
set_option linter.all false
set_option maxRecDepth 100000
namespace HT
open PySem PySem.Spec PyProof.Rows
section
variable {prog : Program} {w : World} {A : Around} {E : Value → Shared → Prop} {s : Shared}
end
end HT
namespace L2
open PySem PySem.Spec PyProof.Rows Wd
end L2
set_option Elab.async false
set_option linter.all false
set_option maxRecDepth 100000
namespace PySem
open Sem (wp)
section
variable {prog : Program} {w : World} {A : Around} {E : Value → Shared → Prop} {s : Shared}
section
variable {R : Result → Shared → Prop} {I : Addr} {fp wr : List Addr} {G : Array GenState → Array GenState → Prop} {n : Nat} {P : Nat → Value → Prop} {St : Nat → Shared → Prop}
end
end
end PySem
set_option Elab.async false
set_option linter.all false
set_option maxRecDepth 100000
namespace PySem
open Sem (wp)
section
variable {prog : Program} {w : World} {A : Around} {E : Value → Shared → Prop} {s : Shared}
end
end PySem
set_option Elab.async false
set_option linter.all false
set_option maxRecDepth 100000
namespace L2
open PySem PySem.Spec PyProof.Rows
theorem upd_idle {h : Heap} {T : Addr} {o : Obj} {f : Obj → Obj} (ho : h.get? T = some o) (hf : f o = o) (b : Addr) : (h.update T f).get? b = h.get? b := by
  by_cases e : T = b
  · subst e
    have := Heap.get?_update_self f ho (by rw [hf]; exact (Heap.get?_some_iff.mp ho).2)
    rw [this, hf, ho]
  · exact Heap.get?_update_other _ _ e
theorem map_idle {oT : Obj} {ts : Array Value} {i : Nat} {v : Value} (hd : oT.data = .fields ts) (h3 : ts[i]? = some v) : Obj.mapFields (·.setIfInBounds i v) oT = oT := by
  obtain ⟨c, d, dt, sl⟩ := oT
  simp only at hd
  subst hd
  obtain ⟨hi, hv⟩ := Array.getElem?_eq_some_iff.mp h3
  have : ts.setIfInBounds i v = ts := by
    apply Array.ext
    · simp
    · intro j h1 h2
      by_cases hj : i = j
      · subst hj; simp [hv]
      · rw [Array.getElem_setIfInBounds_ne _ hj]
  simp only [Obj.mapFields, this]

noncomputable def FltT (T : Addr) (h : Heap) (a : Addr) (fl : Value) : Prop :=
  ∃ oe vs oT ts, h.get? a = some oe ∧ oe.data = .fields vs ∧ vs[1]? = some (.ref T) ∧ T ≠ a ∧ h.get? T = some oT ∧ oT.data = .fields ts ∧ ts[3]? = some fl
noncomputable def Flt (h : Heap) (a : Addr) (fl : Value) : Prop := ∃ T, FltT T h a fl

structure Nts (fs : List Addr) (a : Addr) (fl : Value) (h h' : Heap) : Prop where
  keep : ∀ b o, b ∉ fs → b ≠ a → h.get? b = some o → h'.get? b = some o
  slot : ∀ b o, b ∈ fs → h.get? b = some o → ∃ sl, h'.get? b = some { o with slots := sl }
  exc : ∀ oe vs, h.get? a = some oe → oe.data = .fields vs → ∃ oe' vs', h'.get? a = some oe' ∧ oe'.cls = oe.cls ∧ oe'.dict = oe.dict ∧ oe'.data = .fields vs' ∧ vs'.size = vs.size
  fly : ∃ T, h.objs.size ≤ T ∧ FltT T h' a fl

section
variable {M : Model} {A : Around} {E : Value → Shared → Prop} {s : Shared}
set_option maxHeartbeats 1600000 in
theorem entryX {base : Heap} {env : Env} {outer : List Env} {L e : Addr} {oe : Obj} {vs : Array Value} {head : Value} {hadNext : Bool} {Q : Unit → Shared → Prop}
    (hfr : A.frames = some (env :: outer)) (hl : s.heap.FunFrames base (env :: outer)) (hf : env.frame = some L)
    (he : s.heap.get? e = some oe) (hd : oe.data = .fields vs) (hsz : 1 < vs.size)
    (h : ∀ h', Nts (frs (env :: outer)) e (rawInt L) s.heap h' → Q () { s with heap := h' }) :
    wpAny M A (do let a ← frameOf env; let pl ← entryPlaceOf L hadNext; let b ← EntryCells.newEntry head a .none (rawInt L) .none pl; setField (.ref e) 1 b) Q E s := by
  have hene : e ∉ frs (env :: outer) := fun hm => by
    obtain ⟨_, o, ho, hnf⟩ := hl.mem hm
    rw [he] at ho; injection ho with ho; subst ho; exact hnf vs hd
  refine wpAny_bind (wpAny_frameOf_fun hfr hl hf fun h₁ hs₁ => ?_)
  refine wpAny_bind (wpAny_entryPlaceOf fun pl hpl => ?_)
  unfold EntryCells.newEntry newFields
  refine wpAny_bind (wpAny_newObj_type ?_ (hpl.sizeOk5 _ _ _ _ _))
  generalize hN : ({ cls := .type "traceback", dict := none, data := .fields ([head, .ref L, .none, rawInt L, .none] ++ (if pl.isEmpty then List.replicate 6 Value.none else pl)).toArray } : Obj) = oN
  have hNd : oN.data = .fields ([head, .ref L, .none, rawInt L, .none] ++ (if pl.isEmpty then List.replicate 6 Value.none else pl)).toArray := by rw [← hN]
  have hNf : oN.isFreed = false := by rw [← hN]; rfl
  have he₁ : h₁.get? e = some oe := (hs₁.2.1 e hene).trans he
  have he₂ := Heap.get?_push_of_some (h := h₁) oN he₁
  refine wpAny_setField he₂ hd hsz (h _ ?_)
  have hTe : h₁.objs.size ≠ e := Nat.ne_of_gt (Heap.lt_size he₁)
  have hd₃ := Obj.data_mapFields hd (·.setIfInBounds 1 (Value.ref h₁.objs.size))
  have he₃ := Heap.get?_update_self (Obj.mapFields (·.setIfInBounds 1 (Value.ref h₁.objs.size))) he₂ (Obj.isFreed_of_fields hd₃)
  have hT₃ := (Heap.get?_update_other (h₁.push oN) (Obj.mapFields (·.setIfInBounds 1 (Value.ref h₁.objs.size))) (Ne.symm hTe)).trans (Heap.get?_push_size h₁ hNf)
  have keep : ∀ b o, b ≠ e → h₁.get? b = some o → ((h₁.push oN).update e (Obj.mapFields (·.setIfInBounds 1 (Value.ref h₁.objs.size)))).get? b = some o := fun b o hbe hb => by
    rw [Heap.get?_update_other _ _ (Ne.symm hbe)]
    exact Heap.get?_push_of_some _ hb
  refine ⟨fun b o hb hbe q => keep b o hbe ((hs₁.2.1 b hb).trans q), fun b o hb q => ?_, fun oe' vs' q qd => ?_, ?_⟩
  · obtain ⟨sl, q'⟩ := hs₁.2.2 b o q
    exact ⟨sl, keep b _ (fun z => hene (z ▸ hb)) q'⟩
  · rw [he] at q; cases q
    rw [hd] at qd; cases qd
    refine ⟨_, _, he₃, Obj.cls_mapFields _ _, ?_, hd₃, by simp⟩
    obtain ⟨c, d, dt, sl⟩ := oe
    cases dt <;> rfl
  · refine ⟨h₁.objs.size, Nat.le_of_eq hs₁.1.symm, _, _, oN, _, he₃, hd₃, by simp [hsz], hTe, hT₃, hNd, ?_⟩
    first | (simp; done) | (rcases hpl with rfl | ⟨_, _, _, _, _, _, _, rfl⟩ <;> simp)

theorem noteX {base : Heap} {env : Env} {outer : List Env} {L e : Addr} {oe : Obj} {vs : Array Value} {Q : Unit → Shared → Prop}
    (hfr : A.frames = some (env :: outer)) (hl : s.heap.FunFrames base (env :: outer)) (hf : env.frame = some L)
    (he : s.heap.get? e = some oe) (hd : oe.data = .fields vs) (h1 : vs[1]? = some .none ∨ Flt s.heap e .none)
    (h : ∀ h', Nts (frs (env :: outer)) e (rawInt L) s.heap h' → Q () { s with heap := h' }) : wpAny M A (noteFrame (.ref e) env) Q E s := by
  unfold noteFrame
  simp only [hf]
  rcases h1 with h1 | ⟨T, oe', vs', oT, ts, he', hd', h1, hTe, hT, hdT, h3⟩
  · refine wpAny_bind (wpAny_field he hd h1 ?_)
    rw [if_neg (by decide)]
    exact entryX hfr hl hf he hd (Array.getElem?_eq_some_iff.mp h1).1 h
  · rw [he] at he'; cases he'
    rw [hd] at hd'; cases hd'
    refine wpAny_bind (wpAny_field he hd h1 ?_)
    rw [if_pos (show (Value.ref T != Value.none) = true from by simp)]
    refine wpAny_bind (wpAny_field hT hdT h3 ?_)
    rw [if_neg (show ¬ ((Value.none == rawInt L) = true) from by simp [rawInt])]
    refine wpAny_bind (wpAny_setField hT hdT (Array.getElem?_eq_some_iff.mp h3).1 ?_)
    have idle := upd_idle (f := Obj.mapFields (·.setIfInBounds 3 Value.none)) hT (map_idle hdT h3)
    refine entryX hfr (hl.of_keeps fun b o hb _ => ⟨o, (idle b).trans hb, rfl⟩) hf ((idle e).trans he) hd (Array.getElem?_eq_some_iff.mp h1).1 fun h' N => h h' ?_
    obtain ⟨k1, k2, k3, k4⟩ := N
    refine ⟨fun b o hb hbe q => k1 b o hb hbe ((idle b).trans q), fun b o hb q => k2 b o hb ((idle b).trans q), fun o v q d => k3 o v ((idle e).trans q) d, ?_⟩
    obtain ⟨T', b1, b2⟩ := k4
    exact ⟨T', Nat.le_trans (Nat.le_of_eq (Heap.size_after_update ..).symm) b1, b2⟩

theorem flightX {T e : Addr} {fl : Value} {Q : Unit → Shared → Prop} (hF : FltT T s.heap e fl)
    (h : ∀ h', FltT T h' e .none → (∀ b o, b ≠ T → s.heap.get? b = some o → h'.get? b = some o) → (∀ b, (∃ o, s.heap.get? b = some o) → ∃ o, h'.get? b = some o) → (fl = .none → ∀ b, h'.get? b = s.heap.get? b) → Q () { s with heap := h' }) :
    wpAny M A (setFlight (.ref e) none) Q E s := by
  obtain ⟨oe, vs, oT, ts, he, hd, h1, hTe, hT, hdT, h3⟩ := hF
  have hsz3 : 3 < ts.size := (Array.getElem?_eq_some_iff.mp h3).1
  have other : ∀ b, b ≠ T → (s.heap.update T (Obj.mapFields (·.setIfInBounds 3 ((none : Option Addr).elim Value.none fun f => rawInt f)))).get? b = s.heap.get? b :=
    fun b hb => Heap.get?_update_other _ _ (Ne.symm hb)
  have hT' := Heap.get?_update_self (Obj.mapFields (·.setIfInBounds 3 ((none : Option Addr).elim Value.none fun f => rawInt f))) hT (Obj.isFreed_of_fields (Obj.data_mapFields hdT _))
  unfold setFlight
  refine wpAny_bind (wpAny_field he hd h1 ?_)
  rw [if_pos (show (Value.ref T != Value.none) = true from by simp)]
  refine wpAny_setField hT hdT hsz3 (h _ ⟨oe, vs, _, _, (other e (Ne.symm hTe)).trans he, hd, h1, hTe, hT', Obj.data_mapFields hdT _, by simp [hsz3]⟩ (fun b o hb q => (other b hb).trans q) (fun b ⟨o, q⟩ => ?_) fun z b => ?_)
  · by_cases z : b = T
    · subst z; exact ⟨_, hT'⟩
    · exact ⟨o, (other b z).trans q⟩
  · subst z
    exact upd_idle hT (map_idle hdT h3) b

theorem leaveX {base : Heap} {env : Env} {outer : List Env} {L e : Addr} {oe : Obj} {vs : Array Value} {Q : Unit → Shared → Prop}
    (hfr : A.frames = some (env :: outer)) (hl : s.heap.FunFrames base (env :: outer)) (hf : env.frame = some L)
    (he : s.heap.get? e = some oe) (hd : oe.data = .fields vs) (h1 : vs[1]? = some .none ∨ Flt s.heap e .none)
    (h : ∀ h', Nts (frs (env :: outer)) e .none s.heap h' → Q () { s with heap := h' }) : wpAny M A (leaving env (.ref e)) Q E s := by
  unfold leaving
  refine wpAny_bind (noteX hfr hl hf he hd h1 fun h₁ N => ?_)
  obtain ⟨k1, k2, k3, T, hT, k4⟩ := N
  refine flightX (s := { s with heap := h₁ }) k4 fun h₂ f1 f2 f3 _ => h h₂ ⟨fun b o hb hbe q => f2 b o (fun z => ?_) (k1 b o hb hbe q), fun b o hb q => ?_, fun oe vs q qd => ?_, T, hT, f1⟩
  · exact absurd (Nat.lt_of_lt_of_le (Heap.lt_size q) (z ▸ hT)) (Nat.lt_irrefl _)
  · obtain ⟨sl, q'⟩ := k2 b o hb q
    exact ⟨sl, f2 b _ (fun z => absurd (Nat.lt_of_lt_of_le (Heap.lt_size q) (z ▸ hT)) (Nat.lt_irrefl _)) q'⟩
  · obtain ⟨oe', vs', q1, q2⟩ := k3 oe vs q qd
    exact ⟨oe', vs', f2 e _ (fun z => absurd (Nat.lt_of_lt_of_le (Heap.lt_size q) (z ▸ hT)) (Nat.lt_irrefl _)) q1, q2⟩
end
end L2
set_option Elab.async false
set_option linter.all false
set_option maxRecDepth 100000
namespace L2
open PySem PySem.Spec PyProof.Rows
noncomputable def exo (a C : Addr) (d : Option Addr) (b : Bool) : Heap → Prop := fun h =>
  ∃ oe vs, h.get? a = some oe ∧ oe.cls = .ref C ∧ oe.dict = d ∧ oe.data = .fields vs ∧ vs.size = 6 ∧ (b = true → vs[1]? = some .none)
noncomputable abbrev Exo (a C : Addr) (d : Option Addr) (b : Bool) : HO := .ext (exo a C d b)
theorem exo_stay {a C : Addr} {d : Option Addr} {b : Bool} {h1 h2 : Heap} (x : exo a C d b h1) (k : ∀ o, h1.get? a = some o → h2.get? a = some o) : exo a C d b h2 :=
  let ⟨oe, vs, q, r⟩ := x; ⟨oe, vs, k _ q, r⟩
theorem exo_ok {P : Program} {w : World} {H : Hp} {h : Heap} {a C : Addr} {d : Option Addr} {b : Bool} (x : exo a C d b h) : ObjOk P w H h a (Exo a C d b) :=
  ⟨x, let ⟨oe, _, q, _⟩ := x; ⟨oe, q⟩, fun _ _ y k => exo_stay y k⟩
theorem upd_idem {H : Hp} {a : Addr} {o : HO} (h : H a = some o) : upd H a o = H := by
  funext b
  by_cases e : b = a
  · subst e; rw [upd_same, h]
  · rw [upd_ne e]

noncomputable def CXe (P : Program) (w : World) : CXT := fun outer H s E e s' =>
  ∃ a C d H', e = .ref a ∧ s'.os = s.os ∧ AllBare s'.gens ∧ Un (frs outer) [] H H' s.heap s'.heap ∧ HOk P w H' s'.heap ∧ H' a = some (Exo a C d false) ∧ Flt s'.heap a .none ∧ E (.ref a) none H'


section
variable {P : Program} {w : World} {H : Hp} {h h' : Heap} {fs : List Addr} {e C : Addr} {d : Option Addr} {b : Bool} {fl : Value}
theorem nts_un (ok : HOk P w H h) (he : H e = some (Exo e C d b)) (hfs : ∀ c ∈ fs, H c = none) (N : Nts fs e fl h h') :
    Un fs [] H (upd H e (Exo e C d false)) h h' ∧ HOk P w (upd H e (Exo e C d false)) h' := by
  obtain ⟨⟨oe, vs, g1, g2, g3, g4, g5, g6⟩, _, _⟩ := ok e _ he
  obtain ⟨oe', vs', n1, n2, n3, n4, n5⟩ := N.exc oe vs g1 g4
  have hx : exo e C d false h' := ⟨oe', vs', n1, n2.trans g2, n3.trans g3, n4, n5.trans g5, fun z => by cases z⟩
  have ne : ∀ c, H c = none → c ≠ e := fun c n z => by rw [z, he] at n; cases n
  have ne' : ∀ c u, H c = some u → u ≠ Exo e C d b → c ≠ e := fun c u q n z => by rw [z, he] at q; cases q; exact n rfl
  refine ⟨⟨fun c o q n hc _ => N.keep c o hc (ne c n) q, fun c o q n hc _ => N.slot c o hc q, fun c o q n _ => by rw [upd_ne (ne c n)]; exact n, fun c o q _ => ?_,
    fun c xs q => by rw [upd_ne (ne' c _ q (by intro z; cases z))]; exact q, fun c o u q => by rw [upd_ne (ne' c _ q (by intro z; cases z))]; exact q, fun c ps q => ⟨#[], by rw [upd_ne (ne' c _ q (by intro z; cases z)), q]; simp⟩⟩, fun c u q => ?_⟩
  · by_cases z : c = e
    · subst z; exact ⟨_, n1⟩
    · by_cases y : c ∈ fs
      · obtain ⟨sl, r⟩ := N.slot c o y q
        exact ⟨_, r⟩
      · exact ⟨o, N.keep c o y z q⟩
  · by_cases z : c = e
    · subst z; rw [upd_same] at q; cases q; exact exo_ok hx
    · rw [upd_ne z] at q
      refine (ok c u q).stay (fun x v hx q' => ?_) (fun x hx => by rw [upd_ne (ne' x _ hx (by intro z; cases z))]; exact hx) fun x xs hx => by rw [upd_ne (ne' x _ hx (by intro z; cases z))]; exact hx
      have nx : x ≠ e := by
        rcases hx with rfl | hx
        · exact z
        · exact ne' x _ hx (by intro z; cases z)
      refine N.keep x v (fun y => ?_) nx q'
      have := hfs x y
      rcases hx with rfl | hx
      · rw [this] at q; cases q
      · rw [this] at hx; cases hx
end

noncomputable def Raises (X : Cx) (E : XK) : Prop := ∀ (pins : List (Addr × Obj)) (σ : St) (H : Hp) (s : Shared) (a C : Addr) (d : Option Addr), Inv X pins σ H s → H a = some (Exo a C d true) → E (.ref a) none (upd H a (Exo a C d false)) → X.xe (.ref a) s

section
variable {P : Program} {w : World} {K : PySem.W.Frag} {mg : Str → Option Value} {base : Heap} {N : List Str} {qual : Str} {scope : Scope} {f : Addr} {cd : Value} {A : Around} {outer : List Env} {s : Shared} {H : Hp} {E : XK}
theorem leave_def {pins : List (Addr × Obj)} {σ : St} {H1 : Hp} {s1 : Shared} {a C : Addr} {d : Option Addr} {b : Bool} (I : Inv (cxOf (CXe P w) P w K mg base N qual scope f cd A outer s H E) pins σ H1 s1)
    (ha : H1 a = some (Exo a C d b)) (hf : b = true ∨ Flt s1.heap a .none) (hE : E (.ref a) none (upd H1 a (Exo a C d false))) : (cxOf (CXe P w) P w K mg base N qual scope f cd A outer s H E).xe (.ref a) s1 := by
  obtain ⟨⟨oe, vs, g1, g2, g3, g4, g5, g6⟩, _, _⟩ := I.hok a _ ha
  refine leaveX (base := base) (outer := outer) I.ok.frames I.stack rfl g1 g4 (hf.imp (fun z => g6 z) id) fun h' Nt => ?_
  obtain ⟨un, hok⟩ := nts_un I.hok ha I.stkFree Nt
  have J := I.call' (s' := { s1 with heap := h' }) rfl un hok I.bare (fun b z => absurd z (by simp))
  obtain ⟨T, _, hT⟩ := Nt.fly
  exact ⟨a, C, d, _, rfl, J.os, J.bare, J.base, J.hok, upd_same .., ⟨T, hT⟩, hE⟩
theorem raises_def : Raises (cxOf (CXe P w) P w K mg base N qual scope f cd A outer s H E) E := fun pins σ H1 s1 a C d I ha hE => leave_def I ha (.inl rfl) hE
end
end L2
set_option Elab.async false
set_option linter.all false
set_option maxRecDepth 100000
namespace L2
open PySem PySem.Spec PyProof.Rows
noncomputable abbrev bmV : List Value := [.type "ValueError", .type "Exception", .type "BaseException", .type "object"]
structure XCl (K : PySem.W.Frag) (C : Addr) (bm : List Value) : Prop where
  obj : ∃ dd cd k0 k1 k2 k3 k5, K.lookup C = some ⟨.type "type", dd, .cls cd, #[k0, k1, k2, k3, some (.builtin "ValueError.__new__"), k5]⟩ ∧ cd.mro = .ref C :: bm ∧ cd.hasDel = false ∧ cd.hasDict = true
  tl : PySem.W.tailIn K bmV bm = true
  kp : PySem.W.keepIn K (.ref C) = true
noncomputable abbrev xtup (us : List Value) : Obj := { cls := .type "tuple", data := .seq us.toArray }
noncomputable abbrev xnew (C t : Addr) : Obj := { cls := .ref C, data := .fields #[.ref t, .none, .none, .none, .bool false, .none] }
theorem XCl.at {K : PySem.W.Frag} {C : Addr} {bm : List Value} {h : Heap} (x : XCl K C bm) (X : K.In h) : OwnTail h bmV bm ∧ ∃ nm q N bs sn sub ab col dd k0 k1 k2 k3 k5, h.get? C = some (excClassObj nm q C N bs bm true sn sub ab col dd k0 k1 k2 k3 k5 "ValueError.__new__") := by
  refine ⟨PySem.W.tail_of_in X x.tl, ?_⟩
  obtain ⟨dd, cd, k0, k1, k2, k3, k5, hl, hm, hd, hh⟩ := x.obj
  obtain ⟨nm, bs, mro, ns, qn, hdc, sn, sub, ab, col, del⟩ := cd
  dsimp only at hm hd hh
  subst hm hd hh
  exact ⟨nm, qn, ns, bs, sn, sub, ab, col, dd, k0, k1, k2, k3, k5, X _ _ hl⟩

section
variable {prog : Program} {w : World} {A : Around} {E : Value → Shared → Prop} {h : Heap} {g : Array GenState} {d : Drawn} {t : Nat} {os : OsState} {K : PySem.W.Frag} {C fI : Addr} {bm : List Value}
set_option maxHeartbeats 1600000 in
theorem type_call_X {rest : List Value} {Q : Fin → Shared → Prop} (X : K.In h) (x : XCl K C bm) (hi : PySem.W.findIn K (.ref C) "__init__" = some (some (.ref fI))) (hf : PySem.W.isFn K (.ref fI) = true)
    (hq : wpAny (model prog w) A (call (.ref fI) (.ref (h.objs.size + 1) :: rest)) (fun r s' => r = .none ∧ Q (.done (.ret (.ref (h.objs.size + 1)))) s') E ⟨(h.push (xtup rest)).push (xnew C h.objs.size), g, d, t, os⟩) (hrest : rest.length ≤ sizeLine) :
    wpAny (model prog w) A (Builtin.«type.__call__» ⟨.ref C :: rest, []⟩) Q E ⟨h, g, d, t, os⟩ := by
  obtain ⟨T, nm, q, N, bs, sn, sub, ab, col, dd, k0, k1, k2, k3, k5, hC⟩ := x.at X
  have F := PySem.F.excBase_ValueError
  repeat (first | with_reducible refine wpAny_loadPart_at hC ?_ | with_reducible refine wpAny_madeBy_exc hC ?_ | wp_step)
  refine codeAny_call_builtin_code (Code.quiet_builtin _ F.quiet) (wpAny_check_new_subT F T hC ?_)
  refine codeAny_exc_new_subT F T hC ?_ hrest
  show wpAny _ _ _ _ _ _
  have k1 : ∀ b o, h.get? b = some o → ((h.push (xtup rest)).push (xnew C h.objs.size)).get? b = some o := fun b o e => Heap.get?_push_of_some _ (Heap.get?_push_of_some _ e)
  have hC₁ := k1 _ _ hC
  have X₁ : K.In ((h.push (xtup rest)).push (xnew C h.objs.size)) := fun b o e => k1 b o (X b o e)
  have hget : ((h.push (xtup rest)).push (xnew C h.objs.size)).get? (h.objs.size + 1) = some (xnew C h.objs.size) := by heap_get
  have hcC : (Value.ref C :: bm).contains (.ref C) = true := by simp
  unfold isInstance
  repeat (first | with_reducible refine wpAny_loadPart_at hget ?_ | (with_reducible refine wpAny_isSubtype_exc hC₁ ?_; rw [hcC]) | wp_step)
  show wpAny _ _ (typeLookup (.ref C) _) _ _ _
  refine (PySem.W.looks_findIn (M := model prog w) X₁ hi).at ?_
  refine wpAny_holding (wpAny_bind ?_)
  unfold bindSpecial
  have L := PySem.W.looks_typeIn (M := model prog w) X₁ (beq_iff_eq.mp hf)
  refine wpAny_bind (L.at ?_)
  rw [if_pos (by decide)]
  refine wpAny_pure (wpAny_bind (wpAny_mono hq (fun r s' hr => ?_) fun _ _ x => x))
  obtain ⟨rfl, hQ⟩ := hr
  wp_walk
  exact hQ

theorem call_X {rest : List Value} {Q : Value → Shared → Prop} (X : K.In h) (x : XCl K C bm) (hi : PySem.W.findIn K (.ref C) "__init__" = some (some (.ref fI))) (hf : PySem.W.isFn K (.ref fI) = true)
    (hq : wpAny (model prog w) (A.under (.builtin "type.__call__" ⟨.ref C :: rest, []⟩)) (call (.ref fI) (.ref (h.objs.size + 1) :: rest)) (fun r s' => r = .none ∧ Q (.ref (h.objs.size + 1)) s') E ⟨(h.push (xtup rest)).push (xnew C h.objs.size), g, d, t, os⟩) (hrest : rest.length ≤ sizeLine) :
    wpAny (model prog w) A (call (.ref C) rest) Q E ⟨h, g, d, t, os⟩ := by
  obtain ⟨T, nm, q, N, bs, sn, sub, ab, col, dd, k0, k1, k2, k3, k5, hC⟩ := x.at X
  have f1 := tc_lookup
  have f2 := tc_bind (.ref C)
  have hT : (⟨h, g, d, t, os⟩ : Shared).TypeIs (.ref C) "type" := ⟨_, hC, rfl⟩
  refine wpAny_call (codeAny_of_tree ?_)
  show wpAny _ _ (callAny (.ref C) _) _ _ _
  repeat (any_goals (first | assumption | with_reducible refine wpAny_loadPart_at hC ?_ | wp_step))
  refine ⟨rfl, ?_⟩
  exact codeAny_call_builtin_at (Code.quiet_builtin _ (by decide +kernel)) entry_typeCall (wpAny_check_type_call_sub hC (type_call_X X x hi hf hq hrest))
end

section
variable {X : Cx} {k : Nat} {f C : Addr} {fd : FuncData} {ps : List Str} {sp : Sp} {x : Str} {p pos : Pos} {e : Expr} {es : List Expr} {t : TA} {bm : List Value}
theorem Inv.madeX {pins : List (Addr × Obj)} {σ : St} {H : Hp} {s : Shared} (I : Inv X pins σ H s) (us : List Value) : Inv X pins σ (upd H (s.heap.objs.size + 1) (Exo (s.heap.objs.size + 1) C none true)) { s with heap := (s.heap.push (xtup us)).push (xnew C s.heap.objs.size) } := by
  have I1 := I.kept (h' := s.heap.push (xtup us)) (t' := s.toks) (fun b u q => Heap.get?_push_of_some _ q)
  refine I1.laid (a := s.heap.objs.size + 1) (t' := s.toks) (fun b u q => Heap.get?_push_of_some _ q) (Nat.le_of_eq (Heap.size_push _ _)) (exo_ok ⟨xnew C s.heap.objs.size, _, ?_, rfl, rfl, rfl, rfl, fun _ => rfl⟩)
  have := Heap.get?_push_size (s.heap.push (xtup us)) (o := xnew C s.heap.objs.size) rfl
  rwa [Heap.size_push] at this
theorem run_makeX {pins : List (Addr × Obj)} {σ : St} {H : Hp} {s : Shared} {Q : VK} {us : List Value} {vs : List V} (M : XCl X.K C bm) (hi : PySem.W.findIn X.K (.ref C) "__init__" = some (some (.ref f))) (hf : PySem.W.isFn X.K (.ref f) = true)
    (F : FnOk X.prog X.w X.K X.mg X.base CX0 k f fd ps sp) (hr : Room (k + 1) X.A) (hb : Binds X.K fd ps []) (I : Inv X pins σ H s) (r : Vals vs us)
    (h : vs.length ≤ 1000 ∧ ∀ x, H x = none → sp (.ref x :: vs) (upd H x (Exo x C none true)) (fun v H2 => v = .non ∧ Q (.ref x) H2) E0) : wpAny (model X.prog X.w) X.A (call (.ref C) us) (EP X pins σ Q) X.xe s := by
  obtain ⟨hl0, h⟩ := h
  have hq := h (s.heap.objs.size + 1) (I.hok.fresh (Nat.le_succ _))
  have I2 := Inv.madeX (C := C) I us
  have r2 : Vals (V.ref (s.heap.objs.size + 1) :: vs) (Value.ref (s.heap.objs.size + 1) :: us) := .cons rfl r
  have hl : (Value.ref (s.heap.objs.size + 1) :: us ++ []).length = ps.length := by
    have e := r2.length
    rw [F.len _ _ _ _ hq] at e
    rw [List.append_nil]
    exact e.symm
  obtain ⟨hh, g, d, tk, os⟩ := s
  refine call_X I.kIn M hi hf (wpAny_call ?_) (by rw [← r.length, sizeLine_eq]; omega)
  have hb' := hb ⟨(hh.push (xtup us)).push (xnew C hh.objs.size), g, d, tk, os⟩ (Value.ref (hh.objs.size + 1) :: us) I2.kIn hl
  rw [List.append_nil] at hb'
  refine codeAny_mono (F.run _ X.stack _ _ ⟨Value.ref (hh.objs.size + 1) :: us, []⟩ (Value.ref (hh.objs.size + 1) :: us) _ _ E0 (hr.make C us []) (I2.env0.make C us []) hb' r2 hq) fun r s' hq' => ?_
  cases r with
  | error e => exact hq'.elim
  | ok fl =>
    cases fl with
    | ret u =>
      obtain ⟨v, H', I3, rv, ev, q3⟩ := I2.after hq'
      subst ev
      exact ⟨rv, ⟨V.ref (hh.objs.size + 1), H', I3, rfl, q3⟩⟩
    | next => exact False.elim hq'
    | brk => exact False.elim hq'
    | cont => exact False.elim hq'
end
end L2
set_option Elab.async false
set_option linter.all false
set_option maxRecDepth 100000
namespace L2
open PySem PySem.Spec PyProof.Rows Builtin Builtin.ObjectAttr
section
variable {prog : Program} {w : World} {A : Around} {E : Value → Shared → Prop} {h : Heap} {g : Array GenState} {d : Drawn} {t : Nat} {os : OsState} {K : PySem.W.Frag} {C e : Addr} {bm : List Value} {oe : Obj} {vs : Array Value}
theorem init_X {rest : List Value} {R : Result → Shared → Prop} (X : K.In h) (x : XCl K C bm) (he : h.get? e = some oe) (hcls : oe.cls = .ref C) (hd : oe.data = .fields vs) (hsz : vs.size = 6) (hrest : rest.length ≤ sizeLine)
    (hq : R (.ok (.ret .none)) ⟨(h.push (xtup rest)).update e (Obj.mapFields (·.setIfInBounds 0 (.ref h.objs.size))), g, d, t, os⟩) :
    codeAny (model prog w) A (.call (.builtin "ValueError.__init__") ⟨.ref e :: rest, []⟩) R ⟨h, g, d, t, os⟩ := by
  obtain ⟨T, nm, q, N, bs, sn, sub, ab, col, dd, k0, k1, k2, k3, k5, hC⟩ := x.at X
  have F := PySem.F.excBase_ValueError
  refine codeAny_call_builtin F.init.plain F.initEntry (wpAny_check_init_subT F T hC he hcls ?_)
  unfold Builtin.«BaseException.__init__»
  refine wpAny_bind (m := newTuple rest) ?_
  unfold newTuple
  refine wpAny_newObj_type ?_ (by show rest.toArray.size ≤ sizeLine; rw [List.size_toArray]; exact hrest)
  have he₁ := Heap.get?_push_of_some (h := h) (xtup rest) he
  have h0 : ∃ a0, vs[0]? = some a0 := ⟨vs[0], Array.getElem?_eq_getElem (by omega)⟩
  obtain ⟨a0, h0⟩ := h0
  unfold BaseException.bexcPut
  refine wpAny_bind (wpAny_bind (wpAny_field he₁ hd h0 (wpAny_bind (wpAny_setField he₁ hd (by omega) ?_))))
  cases a0 <;> first | exact wpAny_letGo (wpAny_pure hq) | exact wpAny_pure (wpAny_pure hq)

theorem refuse_tail {bm : List Value} {self : Value} (T : OwnTail h bmV bm) : refuseLoop self "__setattr__" bm = pure () := by
  induction T with
  | base => exact PySem.F.store_ValueError.passes self
  | own _ _ _ _ ih => rw [refuseLoop_ref]; exact ih

structure SetX (h h' : Heap) (e : Addr) (oe : Obj) (name : Str) (v : Value) (mA : Str → Option Value) (dx : Addr) : Prop where
  ns : h'.Ns1 dx fun y => if y = name then some v else mA y
  exc : h'.get? e = some { oe with dict := some dx }
  keep : ∀ b o, b ≠ e → b ≠ dx → h.get? b = some o → h'.get? b = some o
section
variable {name : Str} {v : Value} {mA : Str → Option Value}
set_option maxHeartbeats 1600000 in
theorem set_entryX {tk : Tok} {Q : Fin → Shared → Prop} {ns : List Str} (X : K.In h) (x : XCl K C bm) (hna : PySem.W.findIn K (.ref C) name = some none)
    (hx : h.get? e = some oe) (hc : oe.cls = .ref C) (hnc : oe.data = .fields vs) (hd : (oe.dict = none ∧ ∀ n, mA n = none) ∨ ∃ dx, oe.dict = some dx ∧ dx ≠ e ∧ h.Ns1 dx mA)
    (hq : ∀ h' tk' dx, SetX h h' e oe name v mA dx → (oe.dict = none → dx = h.objs.size) → (∀ dy, oe.dict = some dy → dx = dy) → Q (.done (.ret .none)) ⟨h', g, d, tk', os⟩) (hw : Within mA ns) (hsz : ns.length ≤ 1000) :
    wpAny (model prog w) A (Builtin.«object.__setattr__» ⟨[.ref e, .str name tk, v], []⟩) Q E ⟨h, g, d, t, os⟩ := by
  obtain ⟨T, nm, q, N, bs, sn, sub, ab, col, dd, k0, k1, k2, k3, k5, hC⟩ := x.at X
  have hpass := refuse_tail (self := .ref e) T
  have L := PySem.W.looks_findIn (M := model prog w) X hna
  unfold Builtin.«object.__setattr__»
  repeat (first | rw [refuse_eq] | (rw [refuseLoop_ref, hpass]) | (with_reducible refine wpAny_loadPart_at hx ?_; rw [hc]) | with_reducible refine wpAny_mroOf_exc hC ?_ | with_reducible refine L.at ?_ | wp_step)
  rcases hd with ⟨hdn, hmA⟩ | ⟨dx, hdx, hne, hns⟩
  · rw [hdn, if_neg (by simp [typeHasDict])]
    split
    · rename_i hcd
      cases hcd
    split
    · rename_i c hcd
      rw [hnc] at hcd; cases hcd
    · have hx₁ : (h.push { cls := .type "dict", data := .dict #[] }).get? e = some oe := Heap.get?_push_of_some _ hx
      have hxs : e ≠ h.objs.size := Nat.ne_of_lt (Heap.lt_size hx)
      refine wpAny_bind (wpAny_alloc' ?_)
      refine wpAny_bind (wpAny_update' hx₁ ?_)
      refine wpAny_pure ?_
      have hgd : ((h.push { cls := .type "dict", data := .dict #[] }).update e fun o => { cls := o.cls, dict := some h.objs.size, data := o.data, slots := o.slots }).get? h.objs.size
          = some { cls := .type "dict", data := .dict #[] } :=
        (Heap.get?_update_ne _ _ _ _ hxs.symm).trans (Heap.get?_push_at rfl rfl)
      have hnd : ((h.push { cls := .type "dict", data := .dict #[] }).update e fun o => { cls := o.cls, dict := some h.objs.size, data := o.data, slots := o.slots }).Ns h.objs.size (fun _ => none) :=
        ⟨_, #[], _, hgd, rfl, fun e he => absurd he (by simp), fun _ => rfl⟩
      show wpAny _ _ (storeInDict h.objs.size (.str name tk) name v) _ _ _
      unfold storeInDict newKeyGuard
      refine wpAny_bind (wpAny_pure (wpAny_bind (wpAny_nsSet1 (Heap.Ns1.of_empty hnd) fun h' hn' hs => ?_)))
      obtain ⟨oD, esD, epD, hoD, hdD, hcD⟩ := hn'.count (Within.cons name v Within.nil)
      refine wpAny_bind (wpAny_lookBehind hoD (by rw [hdD]; exact pastItsLine_dict (Nat.le_trans hcD (by rw [List.length_cons, List.length_nil, sizeLine_eq]; omega))) ?_)
      wp_walk
      refine hq h' _ h.objs.size ⟨?_, ?_, fun b o hbx _ hb => ?_⟩ (fun _ => rfl) fun dy q => by rw [hdn] at q; cases q
      · obtain ⟨o', es, ep, e1, e2, e3, eu, e4⟩ := hn'
        exact ⟨o', es, ep, e1, e2, e3, eu, fun y => by rw [e4 y]; by_cases hy : y = name <;> simp [hy, hmA]⟩
      · exact (hs.2 e hxs).trans (Heap.get?_update_self _ hx₁ (Obj.isFreed_of_fields hnc))
      · exact (hs.2 b (Nat.ne_of_lt (Heap.lt_size hb))).trans ((Heap.get?_update_ne _ _ _ _ hbx).trans (Heap.get?_push_of_some _ hb))
  · rw [hdx]
    refine wpAny_pure ?_
    show wpAny _ _ (storeInDict dx (.str name tk) name v) _ _ _
    unfold storeInDict newKeyGuard
    refine wpAny_bind (wpAny_pure (wpAny_bind (wpAny_nsSet1 hns fun h' hn' hs => ?_)))
    obtain ⟨oD, esD, epD, hoD, hdD, hcD⟩ := hn'.count (Within.cons name v hw)
    refine wpAny_bind (wpAny_lookBehind hoD (by rw [hdD]; exact pastItsLine_dict (Nat.le_trans hcD (by rw [List.length_cons, sizeLine_eq]; omega))) ?_)
    wp_walk
    refine hq h' _ dx ⟨hn', ?_, fun b ob _ hbd hb => (hs.2 b hbd).trans hb⟩ (fun q => by rw [hdx] at q; cases q) fun dy q => by rw [hdx] at q; cases q; rfl
    rw [(hs.2 e hne.symm).trans hx]
    obtain ⟨c, dd, dt, sl⟩ := oe
    simp only at hdx
    subst hdx
    rfl

theorem check_saX {M : Model} {nameV : Value} {Q : Unit → Shared → Prop} (X : K.In h) (x : XCl K C bm) (hx : h.get? e = some oe) (hc : oe.cls = .ref C) (hq : Q () ⟨h, g, d, t, os⟩) :
    wpAny M A (checkBuiltinCall "object.__setattr__" ⟨[.ref e, nameV, v], []⟩) Q E ⟨h, g, d, t, os⟩ := by
  obtain ⟨T, nm, q, N, bs, sn, sub, ab, col, dd, k0, k1, k2, k3, k5, hC⟩ := x.at X
  have SF := PySem.F.store_ValueError
  have hcB : (Value.ref C :: bm).contains (.type "object") = true := by rw [List.contains_cons, T.hasType SF.hasOwner, Bool.or_true]
  have ha := SF.args (.ref e) nameV v
  simp only [checkBuiltinCall, SF.kind, SF.split]
  refine wpAny_bind ?_
  unfold isInstance
  repeat (first | (with_reducible refine wpAny_loadPart_at hx ?_; rw [hc]) | (with_reducible refine wpAny_isSubtype_exc hC ?_; rw [hcB]) | wp_step)
  exact hq

theorem set_X {Q : Unit → Shared → Prop} {ns : List Str} (X : K.In h) (x : XCl K C bm) (hsa : PySem.W.findIn K (.ref C) "__setattr__" = some (some (.builtin "object.__setattr__"))) (hna : PySem.W.findIn K (.ref C) name = some none)
    (hx : h.get? e = some oe) (hc : oe.cls = .ref C) (hnc : oe.data = .fields vs) (hd : (oe.dict = none ∧ ∀ n, mA n = none) ∨ ∃ dx, oe.dict = some dx ∧ dx ≠ e ∧ h.Ns1 dx mA)
    (hq : ∀ h' tk' dx, SetX h h' e oe name v mA dx → (oe.dict = none → dx = h.objs.size) → (∀ dy, oe.dict = some dy → dx = dy) → Q () ⟨h', g, d, tk', os⟩) (hw : Within mA ns) (hsz : ns.length ≤ 1000) :
    wpAny (model prog w) A (setAttr (.ref e) name v) Q E ⟨h, g, d, t, os⟩ := by
  obtain ⟨T, nm, q, N, bs, sn, sub, ab, col, dd, k0, k1, k2, k3, k5, hC⟩ := id (x.at X)
  have SF := PySem.F.store_ValueError
  have f3 := SF.slot.bind (.ref e)
  have L := PySem.W.looks_findIn (M := model prog w) X hsa
  unfold setAttr callSpecial? specialOf
  repeat (any_goals (first | assumption | (with_reducible refine wpAny_loadPart_at hx ?_; rw [hc]) | with_reducible refine L.at ?_ | wp_step))
  refine codeAny_call_builtin SF.slot.plain SF.entry (check_saX X x hx hc (set_entryX X x hna hx hc hnc hd (fun h' tk' dx a b c => ?_) hw hsz))
  repeat (any_goals (first | assumption | wp_step))
  exact hq h' tk' dx a b c
end
end
end L2
set_option Elab.async false
set_option linter.all false
set_option maxRecDepth 100000
namespace L2
open PySem PySem.Spec PyProof.Rows
noncomputable def xdt (d : Addr) (fs : List (Str × V)) : Heap → Prop := fun h => ∃ mA, h.Ns1 d mA ∧ (∀ f, RelO (fs.lookup f) (mA f)) ∧ PySem.Within mA (fs.map (·.1))
noncomputable abbrev Xdt (d : Addr) (fs : List (Str × V)) : HO := .ext (xdt d fs)
theorem xdt_ok {P : Program} {w : World} {H : Hp} {h : Heap} {d : Addr} {fs : List (Str × V)} (x : xdt d fs h) : ObjOk P w H h d (Xdt d fs) :=
  ⟨x, let ⟨_, ⟨o, _, _, q, _⟩, _⟩ := x; ⟨o, q⟩, fun _ _ y k => let ⟨mA, n, r⟩ := y; ⟨mA, n.at k, r⟩⟩

structure XAt (K : PySem.W.Frag) (C : Addr) : Prop where
  cl : ∃ bm, XCl K C bm
  sa : PySem.W.findIn K (.ref C) "__setattr__" = some (some (.builtin "object.__setattr__"))
  ga : PySem.W.findIn K (.ref C) "__getattribute__" = some (some (.builtin "BaseException.__getattribute__"))
  gn : PySem.W.findIn K (.ref C) "__getattr__" = some none

section
variable {X : Cx} {pins : List (Addr × Obj)} {σ : St} {H : Hp} {s : Shared} {A : Around} {E : Value → Shared → Prop} {a C : Addr} {b : Bool} {f : Str} {y : V} {u : Value} {Q : Unit → Shared → Prop}
theorem exo_get {P : Program} {w : World} {h : Heap} {d : Option Addr} (ok : HOk P w H h) (e : H a = some (Exo a C d b)) : exo a C d b h := (ok a _ e).1
theorem xdt_get {P : Program} {w : World} {h : Heap} {d : Addr} {fs : List (Str × V)} (ok : HOk P w H h) (e : H d = some (Xdt d fs)) : xdt d fs h := (ok d _ e).1
theorem setx0_ok (I : Inv X pins σ H s) (ea : H a = some (Exo a C none b)) (x : XAt X.K C) (hna : PySem.W.findIn X.K (.ref C) f = some none) (ry : RelV y u)
    (h : ∀ s' dx, H dx = none → dx ≠ a → Inv X pins σ (upd (upd H a (Exo a C (some dx) b)) dx (Xdt dx [(f, y)])) s' → Q () s') : wpAny (model X.prog X.w) A (setAttr (.ref a) f u) Q E s := by
  obtain ⟨oe, vs, g1, g2, g3, g4, g5, g6⟩ := exo_get I.hok ea
  obtain ⟨bm, xc⟩ := x.cl
  obtain ⟨hh, g, dr, tk, os⟩ := s
  refine set_X (mA := fun _ => none) (ns := []) I.kIn xc x.sa hna g1 g2 g4 (.inl ⟨g3, fun _ => rfl⟩) (fun h' tk' dx S d1 _ => ?_) (fun n hn => absurd rfl hn) (by simp)
  have hdx : dx = hh.objs.size := d1 g3
  have hfr : H dx = none := I.hok.fresh (Nat.le_of_eq hdx.symm)
  have nea : dx ≠ a := fun z => by rw [z, ea] at hfr; cases hfr
  have nin : ∀ c o, hh.get? c = some o → c ≠ dx := fun c o q z => absurd (Heap.lt_size q) (by rw [z, hdx]; exact Nat.lt_irrefl _)
  have neA : ∀ c, H c = none → c ≠ a := fun c n z => by rw [z, ea] at n; cases n
  have neA' : ∀ c v, H c = some v → v ≠ Exo a C none b → c ≠ a := fun c v q n z => by rw [z, ea] at q; cases q; exact n rfl
  have neD : ∀ c v, H c = some v → c ≠ dx := fun c v q z => by rw [z, hfr] at q; cases q
  have same : ∀ c v, H c = some v → v ≠ Exo a C none b → upd (upd H a (Exo a C (some dx) b)) dx (Xdt dx [(f, y)]) c = some v := fun c v q n => by rw [upd_ne (neD c v q), upd_ne (neA' c v q n)]; exact q
  refine h _ dx hfr nea (I.un (t' := tk') ⟨fun c o q n _ _ => S.keep c o (neA c n) (nin c o q) q, fun c o q n _ _ => ⟨o.slots, S.keep c o (neA c n) (nin c o q) q⟩,
    fun c o q n _ => by rw [upd_ne (nin c o q), upd_ne (neA c n)]; exact n, fun c o q _ => ?_, fun c xs q => same c _ q (by intro z; cases z), fun c o v q => same c _ q (by intro z; cases z), fun c ps q => ⟨#[], by rw [same c _ q (by intro z; cases z)]; simp⟩⟩ fun c v q => ?_)
  · by_cases z : c = a
    · subst z; exact ⟨_, S.exc⟩
    · exact ⟨o, S.keep c o z (nin c o q) q⟩
  · by_cases z : c = dx
    · subst z
      rw [upd_same] at q; cases q
      refine xdt_ok ⟨_, S.ns, fun n => ?_, fun n hn => ?_⟩
      · show RelO (List.lookup n [(f, y)]) (if n = f then some u else none)
        by_cases z : n = f
        · subst z; rw [if_pos rfl, List.lookup_cons, beq_self_eq_true]; exact ry
        · rw [if_neg z, List.lookup_cons, beq_eq_false_iff_ne.mpr z]; exact True.intro
      · by_cases z : n = f
        · subst z; exact List.mem_cons_self
        · exact absurd (show (if n = f then some u else none) = none by rw [if_neg z]) hn
    · rw [upd_ne z] at q
      by_cases y' : c = a
      · subst y'
        rw [upd_same] at q; cases q
        exact exo_ok ⟨_, vs, S.exc, g2, rfl, g4, g5, g6⟩
      · rw [upd_ne y'] at q
        have hc := I.hok c v q
        refine hc.stay (fun p o hp r => S.keep p o ?_ (nin p o r) r) (fun p hp => same p _ hp (by intro z; cases z)) fun p xs hp => same p _ hp (by intro z; cases z)
        rcases hp with rfl | hp
        · exact y'
        · exact neA' p _ hp (by intro z; cases z)
theorem setx1_ok {dx : Addr} {fs : List (Str × V)} (I : Inv X pins σ H s) (ea : H a = some (Exo a C (some dx) b)) (ed : H dx = some (Xdt dx fs)) (hl : fs.length ≤ 900) (x : XAt X.K C) (hna : PySem.W.findIn X.K (.ref C) f = some none) (ry : RelV y u) (hda : dx ≠ a)
    (h : ∀ s', Inv X pins σ (upd H dx (Xdt dx (putF f y fs))) s' → Q () s') : wpAny (model X.prog X.w) A (setAttr (.ref a) f u) Q E s := by
  obtain ⟨oe, vs, g1, g2, g3, g4, g5, g6⟩ := exo_get I.hok ea
  obtain ⟨mA, n1, n2, n3⟩ := xdt_get I.hok ed
  obtain ⟨bm, xc⟩ := x.cl
  obtain ⟨hh, g, dr, tk, os⟩ := s
  refine set_X (mA := mA) (ns := fs.map (·.1)) I.kIn xc x.sa hna g1 g2 g4 (.inr ⟨dx, g3, hda, n1⟩) (fun h' tk' dy S _ d2 => ?_) n3 (by rw [List.length_map]; omega)
  obtain rfl : dy = dx := d2 dx g3
  refine h _ (I.write (t' := tk') (x := dy) (e := dy) (by rw [ed]; exact True.intro) (.inl rfl) (fun c o hc q => ?_) ?_ (xdt_ok ⟨_, S.ns, fun n => ?_, fun n hn => ?_⟩))
  · by_cases z : c = a
    · subst z
      rw [g1] at q; cases q
      rw [S.exc]
      obtain ⟨c1, c2, c3, c4⟩ := oe
      simp only at g3
      subst g3
      rfl
    · exact S.keep c o z hc q
  · obtain ⟨o, _, _, e, _⟩ := S.ns; exact ⟨o, e⟩
  · show RelO ((putF f y fs).lookup n) (if n = f then some u else mA n)
    rw [lookup_putF]
    by_cases z : n = f
    · rw [if_pos z, if_pos z]; exact ry
    · rw [if_neg z, if_neg z]; exact n2 n
  · by_cases z : n = f
    · rw [z]; exact (keys_putF f y fs).1
    · refine (keys_putF f y fs).2 n (n3 n fun w => hn ?_)
      show (if n = f then some u else mA n) = none
      rw [if_neg z]; exact w
end

noncomputable def sFx0 (K : PySem.W.Frag) (ta tv : TE) (f : Str) : TS := fun D σ H => tv σ H fun y H1 => ta σ H1 fun x H2 => ∃ a C b, x = .ref a ∧ H2 a = some (Exo a C none b) ∧ XAt K C ∧ PySem.W.findIn K (.ref C) f = some none ∧
  ∀ dx, H2 dx = none → dx ≠ a → D.nx σ (upd (upd H2 a (Exo a C (some dx) b)) dx (Xdt dx [(f, y)]))
noncomputable def sFx1 (K : PySem.W.Frag) (ta tv : TE) (f : Str) : TS := fun D σ H => tv σ H fun y H1 => ta σ H1 fun x H2 => ∃ a C b dx fs, x = .ref a ∧ H2 a = some (Exo a C (some dx) b) ∧ H2 dx = some (Xdt dx fs) ∧ fs.length ≤ 900 ∧ XAt K C ∧ PySem.W.findIn K (.ref C) f = some none ∧ dx ≠ a ∧
  D.nx σ (upd H2 dx (Xdt dx (putF f y fs)))
section
variable {X : Cx} {o e value : Expr} {es : List Expr} {f x : Str} {p pos pos' apos : Pos} {ta tv te : TE} {t : TA} {R : Addr} {E : XK}
theorem ps_fx0 (ha : PE X o ta) (hv : PE X value tv) (hs : swapsWith value (some (.Attribute o f pos')) pos.line X.env = pure false) : PS X (.Assign [.Attribute o f pos'] value pos) (sFx0 X.K ta tv f) := by
  intro pins s σ H D I h
  refine plainObj_wpAny_Assign_Attribute (thn (hv pins s σ H _ I h) fun u s1 ⟨y, H1, I1, ry, q⟩ => thn (ha pins s1 σ H1 _ I1 q) fun ov s2 zq1 => ?_) hs
  obtain ⟨z, H2, I2, rx, a, C, b, ex, ea, c, n, q2⟩ := zq1
  subst ex
  obtain rfl : ov = Value.ref a := rx
  exact setx0_ok I2 ea c n ry fun s3 dx h1 h2 I3 => ⟨σ, _, I3, q2 dx h1 h2⟩
theorem ps_fx1 (ha : PE X o ta) (hv : PE X value tv) (hs : swapsWith value (some (.Attribute o f pos')) pos.line X.env = pure false) : PS X (.Assign [.Attribute o f pos'] value pos) (sFx1 X.K ta tv f) := by
  intro pins s σ H D I h
  refine plainObj_wpAny_Assign_Attribute (thn (hv pins s σ H _ I h) fun u s1 ⟨y, H1, I1, ry, q⟩ => thn (ha pins s1 σ H1 _ I1 q) fun ov s2 zq2 => ?_) hs
  obtain ⟨z, H2, I2, rx, a, C, b, dx, fs, ex, ea, ed, l, c, n, da, q2⟩ := zq2
  subst ex
  obtain rfl : ov = Value.ref a := rx
  exact setx1_ok I2 ea ed l c n ry da fun s3 I3 => ⟨σ, _, I3, q2⟩

noncomputable def tInitX (K : PySem.W.Frag) (t : TA) : TE := fun σ H Q => t σ H fun vs H1 => ∃ a C d b rest, vs = .ref a :: rest ∧ rest.length ≤ 1000 ∧ H1 a = some (Exo a C d b) ∧ XAt K C ∧ Q .non H1
structure XBase (K : PySem.W.Frag) (R : Addr) : Prop where
  rd : PySem.W.readsIn K R (.type "type") = true
  at_ : PySem.W.findCls K (.ref R) (.type "type") "__init__" = some (.val (.builtin "ValueError.__init__"))
  ga : PySem.W.specialIn K (.ref R) "__getattribute__" = some (some (.builtin "type.__getattribute__"))
  hd : PySem.W.handedIn (.builtin "ValueError.__init__") = true
theorem initx_ok {pins : List (Addr × Obj)} {σ : St} {H : Hp} {s : Shared} {A : Around} {F : Value → Shared → Prop} {Q : Value → Shared → Prop} {a C : Addr} {d : Option Addr} {b : Bool} {rest : List Value} (I : Inv X pins σ H s) (ea : H a = some (Exo a C d b)) (x : XAt X.K C) (hl : rest.length ≤ 1000)
    (h : ∀ s', Inv X pins σ H s' → Q .none s') : wpAny (model X.prog X.w) A (call (.builtin "ValueError.__init__") (.ref a :: rest)) Q F s := by
  obtain ⟨oe, vs, g1, g2, g3, g4, g5, g6⟩ := exo_get I.hok ea
  obtain ⟨bm, xc⟩ := x.cl
  obtain ⟨hh, g, dr, tk, os⟩ := s
  refine wpAny_call (init_X I.kIn xc g1 g2 g4 g5 (by rw [sizeLine_eq]; omega) (h _ ?_))
  have I1 := I.kept (h' := hh.push (xtup rest)) (t' := tk) (fun b u q => Heap.get?_push_of_some _ q)
  have g1' := Heap.get?_push_of_some (h := hh) (xtup rest) g1
  have hd' := Obj.data_mapFields g4 (·.setIfInBounds 0 (Value.ref hh.objs.size))
  have e' := Heap.get?_update_self (Obj.mapFields (·.setIfInBounds 0 (Value.ref hh.objs.size))) g1' (Obj.isFreed_of_fields hd')
  have I2 := I1.write (t' := tk) (x := a) (e := a) (h' := (hh.push (xtup rest)).update a (Obj.mapFields (·.setIfInBounds 0 (Value.ref hh.objs.size)))) (o := Exo a C d b) (by rw [ea]; exact True.intro) (.inl rfl) (fun c o hc q => (Heap.get?_update_other _ _ (Ne.symm hc)).trans q) ⟨_, e'⟩
    (exo_ok ⟨_, _, e', (Obj.cls_mapFields _ _).trans g2, by
      rw [← g3]
      obtain ⟨c1, c2, c3, c4⟩ := oe
      cases c3 <;> rfl, hd', by rw [Array.size_setIfInBounds]; exact g5, fun z => by rw [Array.getElem?_setIfInBounds_ne (by decide)]; exact g6 z⟩)
  rwa [upd_idem ea] at I2
theorem pe_initX {pl : Sem Bool} (B : XBase X.K R) (hg : Gl X x) (hm : X.mg x = some (.ref R)) (ha : PA X (e :: es) t) (hdb : (x == ("__debug__" : Str)) = false := by decide)
    (hst : starEach (e :: es) X.env = (false, eval e X.env) :: starEach es X.env := by rfl) (hpl : (backTo pos (starEach es X.env)).any (·.1) = false := by rfl)
    (ht : eval (.Call (.Attribute (.Name x p) "__init__" apos) (e :: es) [] pos) X.env = (do
      let ov ← eval (.Name x p) X.env
      standAt apos.atName
      let (f, first) ← holding [ov] (getMethod ov "__init__" pl)
      callWith pos f first (backTo pos (starEach (e :: es) X.env)) (backToKw pos (keywordEach [] X.env))) := by rfl) :
    PE X (.Call (.Attribute (.Name x p) "__init__" apos) (e :: es) [] pos) (tInitX X.K t) := by
  intro pins s σ H Q I h
  refine PySem.W.methodCall_KW (pl := pl) (ld_glob I hg hm ?_ hdb) ht
  refine PySem.W.method_cls I.kIn B.ga (PySem.W.cls_value I.kIn B.rd B.at_ B.hd ?_)
  refine PyProof.Rows.callWith_builtin1 (thn (ha pos pins _ σ H _ (I.tok _) h) fun us s2 zq3 => ?_) hst hpl
  obtain ⟨vs, H2, I2, r, a, C, d, b, rest, ev, hl, ea, xa, q2⟩ := zq3
  subst ev
  cases r with
  | cons r1 r2 =>
    obtain rfl : _ = Value.ref a := r1
    exact initx_ok I2 ea xa (by rw [← r2.length]; exact hl) fun s3 I3 => ⟨.non, H2, I3, rfl, q2⟩

noncomputable def sRaise (K : PySem.W.Frag) (te : TE) (E : XK) : TS := fun D σ H => te σ H fun v H1 => ∃ a C d, v = .ref a ∧ H1 a = some (Exo a C d true) ∧ XAt K C ∧ E (.ref a) none (upd H1 a (Exo a C d false))
theorem ps_raiseX (hx : Raises X E) (hc : X.calm = true) (he : PE X e te) : PS X (.Raise (some e) none pos) (sRaise X.K te E) := by
  intro pins s σ H D I h
  rw [arm_exec_Raise]
  refine wpAny_bind (wpAny_standAt ?_)
  unfold raiseStmt
  refine wpAny_bind (wpAny_bind (thn (he pins s σ H _ I h) fun v s1 ⟨y, H1, I1, ry, a, C, d, ey, ea, xa, q⟩ => wpAny_bind (wpAny_standAt (wpAny_pure ?_))))
  subst ey
  obtain rfl : v = Value.ref a := ry
  have fin := hx pins σ H1 s1 a C d I1 ea q
  obtain ⟨⟨oc, od, odt, osl⟩, vs, g1, g2, g3, g4, g5, g6⟩ := exo_get I1.hok ea
  simp only at g2 g3 g4
  subst g2 g3 g4
  obtain ⟨bm, xc⟩ := xa.cl
  obtain ⟨T, nm, q, N, bs, sn, sub, ab, col, dd, k0, k1, k2, k3, k5, hC⟩ := xc.at I1.kIn
  have hcB : (Value.ref C :: bm).contains (.type "BaseException") = true := by rw [List.contains_cons, T.hasType PySem.F.excBase_ValueError.hasBase, Bool.or_true]
  have hh := I1.ok.hd hc
  obtain ⟨hp, g, dr, tk, os⟩ := s1
  repeat (first | with_reducible refine wpAny_loadPart_at g1 ?_ | with_reducible refine wpAny_loadPart_at hC ?_ | (with_reducible refine wpAny_isSubtype_exc hC ?_; rw [hcB]) | wp_step)
  rw [g6 rfl]
  refine wpAny_pure ?_
  rw [if_neg (by decide)]
  exact wpAny_pure (wpAny_raiseNew_none hh fin)
end
end L2
set_option Elab.async false
set_option linter.all false
set_option maxRecDepth 100000
namespace L2
open PySem PySem.Spec PyProof.Rows
theorem XCl.mro {K : PySem.W.Frag} {C : Addr} {bm : List Value} {h : Heap} (x : XCl K C bm) (X : K.In h) {T : String} {b : Bool} (hb : bmV.contains (.type T) = b) : PySem.W.mroIn K C (.type T) = some b := by
  have T' := PySem.W.tail_of_in X x.tl
  obtain ⟨dd, cd, k0, k1, k2, k3, k5, hl, hm, hd, hh⟩ := x.obj
  unfold PySem.W.mroIn PySem.W.clsIn
  rw [hl, Option.bind_some, hm, if_neg (by simp), List.contains_cons, T'.hasType hb]
  rfl
theorem XCl.cls {K : PySem.W.Frag} {C : Addr} {bm : List Value} (x : XCl K C bm) : ∃ cd, PySem.W.clsIn K C = some cd ∧ cd.hasDict = true := by
  obtain ⟨dd, cd, k0, k1, k2, k3, k5, hl, hm, hd, hh⟩ := x.obj
  exact ⟨cd, by unfold PySem.W.clsIn; rw [hl], hh⟩
section
variable {prog : Program} {w : World} {A : Around} {E : Value → Shared → Prop} {s : Shared} {K : PySem.W.Frag} {C a : Addr} {bm : List Value} {oe : Obj} {od : Option Obj} {name : Str} {fill expr : Bool} {tk : Tok}
theorem byX_open {Q : Value → Shared → Prop} (X : K.In s.heap) (I : PySem.W.InstAt s.heap a oe C od) (x : XAt K C)
    (h : wpAny (model prog w) A.in1 (Builtin.«object.__getattribute__» ⟨[.ref a, .str name tk], []⟩) (fun fin s' => match fin with | .done (.ret v) => wpAny (model prog w) A (handedOut v) Q E s' | _ => False) (fun _ _ => False) s) :
    wpAny (model prog w) A (getAttrBy (.ref a) (.str name tk) fill expr) Q E s := by
  obtain ⟨bm, xc⟩ := x.cl
  have hmB := xc.mro X (T := "BaseException") (b := true) PySem.F.excBase_ValueError.hasBase
  have L0 := I.type (M := model prog w)
  unfold getAttrBy
  refine wpAny_holding (wpAny_bind (L0.here (wpAny_bind ((PySem.W.looks_findIn X x.ga).here ?_))))
  dsimp only
  rw [show (onTheHeap (Value.ref C) && Value.builtin "BaseException.__getattribute__" == Value.builtin "object.__getattribute__") = false from by rw [show (Value.builtin "BaseException.__getattribute__" == Value.builtin "object.__getattribute__") = false from by decide +kernel, Bool.and_false], if_neg (by decide)]
  unfold getAttrByItsOwn
  refine wpAny_bind ((PySem.W.looks_hook (mc := .ref C) (r := none) X (by rw [if_pos (show onTheHeap (Value.ref C) = true from rfl)]; exact x.gn)).here (wpAny_bind (wpAny_attempt (wpAny_holding ?_))))
  unfold callGetattribute
  rw [show (expr && onTheHeap (Value.builtin "BaseException.__getattribute__")) = false from Bool.and_false _, if_neg (by decide)]
  unfold boundAndCalled
  rw [PySem.F.attr_ValueError.ga.bind]
  refine wpAny_bind (wpAny_pure ?_)
  show wpAny _ _ (call (.builtin "BaseException.__getattribute__") [.ref a, .str name tk]) _ _ _
  refine wpAny_call (codeAny_call_builtin PySem.F.attr_ValueError.ga.plain PySem.F.entry_bexc_ga ?_)
  have hk : builtinKind "BaseException.__getattribute__" = some .slot := by decide +kernel
  have hsp : splitId "BaseException.__getattribute__" = some ("BaseException", "__getattribute__") := by decide +kernel
  have LI : PySem.W.Looks (model prog w) s.heap (isInstance (.ref a) (.type "BaseException")) true := L0.andThen (PySem.W.looks_mroIn X hmB)
  refine @PySem.W.check_slot (model prog w) _ _ s "BaseException.__getattribute__" "BaseException" "__getattribute__" (.ref a) [.str name tk] [] _ hk hsp LI (PySem.F.args_bexc_ga (.ref a) (.str name tk)) ?_
  refine wpAny_mono h (fun fin s' z => ?_) fun _ _ z => z.elim
  rcases fin with (_ | _ | _ | _) | _ <;> first | exact z | exact z.elim
theorem ga_value {v : Value} {Q : Fin → Shared → Prop} (X : K.In s.heap) (I : PySem.W.InstAt s.heap a oe C od) (hf : PySem.W.findObj K C od name = some (.value v)) (h : Q (.done (.ret v)) s) :
    wpAny (model prog w) A (Builtin.«object.__getattribute__» ⟨[.ref a, .str name tk], []⟩) Q E s := by
  have L0 := I.type (M := model prog w)
  have L1 := PySem.W.looks_find (M := model prog w) X I hf
  refine wpAny_bind (wpAny_pure (wpAny_bind (wpAny_pure (wpAny_bind (L0.here (wpAny_bind (L1.here ?_)))))))
  exact wpAny_pure h
theorem ga_bind {g b : Value} {Q : Fin → Shared → Prop} (X : K.In s.heap) (I : PySem.W.InstAt s.heap a oe C od) (hf : PySem.W.findObj K C od name = some (.bind g b))
    (h : wpAny (model prog w) A (call g [b, .ref a, .ref C]) (fun v s' => Q (.done (.ret v)) s') E s) :
    wpAny (model prog w) A (Builtin.«object.__getattribute__» ⟨[.ref a, .str name tk], []⟩) Q E s := by
  have L0 := I.type (M := model prog w)
  have L1 := PySem.W.looks_find (M := model prog w) X I hf
  refine wpAny_bind (wpAny_pure (wpAny_bind (wpAny_pure (wpAny_bind (L0.here (wpAny_bind (L1.here ?_)))))))
  show wpAny _ _ (holding [b] (call g [b, .ref a, .ref C]) >>= ret) _ _ _
  exact wpAny_bind (wpAny_holding (wpAny_mono h (fun v s' z => wpAny_pure z) fun _ _ z => z))
end

theorem XCl.hasDict {K : PySem.W.Frag} {C : Addr} {bm : List Value} (x : XCl K C bm) : PySem.W.hasDictIn K C = true := by
  obtain ⟨cd, h1, h2⟩ := x.cls
  unfold PySem.W.hasDictIn
  rw [h1]
  exact h2
structure XCa (K : PySem.W.Frag) (C : Addr) : Prop where
  at_ : XAt K C
  ca : PySem.W.findIn K (.ref C) "__class__" = some (some (.builtin "object.__class__"))
  gt : PySem.W.specialIn K (.builtin "object.__class__") "__get__" = some (some (.builtin "getset_descriptor.__get__"))
  tk : PySem.W.takesIn K (.builtin "object.__class__") = some true
theorem kitx_exc {K : PySem.W.Frag} {C a : Addr} (x : XCa K C) : PySem.W.KitX K (.ref a) (.ref C) (fun h => ∃ oe od, PySem.W.InstAt h a oe C (some od)) where
  ty := fun _ _ _ zq1 => (by obtain ⟨_, _, I⟩ := zq1; exact I.type)
  it := fun _ _ X _ => by
    obtain ⟨bm, xc⟩ := x.at_.cl
    obtain ⟨dd, cd, k0, k1, k2, k3, k5, ho, _⟩ := xc.obj
    intro A' Q' E' s' k q
    unfold isType loadHead
    exact wpAny_bind (wpAny_loadPart (k _ _ (X _ _ ho)) (wpAny_pure q))
  ne := fun h tp dd its n sl X htp => by
    obtain ⟨bm, xc⟩ := x.at_.cl
    obtain ⟨dd, cd, k0, k1, k2, k3, k5, ho, _⟩ := xc.obj
    refine Bool.eq_false_iff.mpr fun q => ?_
    have e : C = tp := Value.ref.inj (beq_iff_eq.mp q)
    subst e
    have z := congrArg Obj.data (Option.some.inj ((X _ _ ho).symm.trans htp))
    cases z
  ca := fun {prog w A E Q s} X ⟨oe, od, I⟩ k => by
    obtain ⟨bm, xc⟩ := x.at_.cl
    obtain ⟨cd, hc, _⟩ := xc.cls
    have hf : PySem.W.findObj K C (some od) "__class__" = some (.bind (.builtin "getset_descriptor.__get__") (.builtin "object.__class__")) := PySem.W.findObj_data (by rw [hc]; rfl) x.ca x.gt x.tk
    refine wpAny_bind (wpAny_mkText ?_)
    unfold getAttrBy?
    refine wpAny_bind (wpAny_attempt ?_)
    refine byX_open (s := { s with toks := s.toks + 1 }) X I x.at_ (ga_bind (s := { s with toks := s.toks + 1 }) X I hf (wpAny_call ?_))
    exact PySem.W.class_get (s := { s with toks := s.toks + 1 }) (ox := oe) (od := some od) X I (xc.mro X PySem.F.store_ValueError.hasOwner) (PySem.W.handed_on rfl (wpAny_pure k))

section
variable {X : Cx} {pins : List (Addr × Obj)} {σ : St} {H : Hp} {s : Shared} {A : Around} {E : Value → Shared → Prop} {a C dx : Addr} {b : Bool} {fs : List (Str × V)} {f : Str} {v : V}
theorem exc_inst (I : Inv X pins σ H s) (ea : H a = some (Exo a C (some dx) b)) (ed : H dx = some (Xdt dx fs)) : ∃ oe od, PySem.W.InstAt s.heap a oe C (some od) ∧ ∃ mA : Str → Option Value, (∀ n, PySem.W.lookIn n od = some (mA n)) ∧ ∀ n, RelO (fs.lookup n) (mA n) := by
  obtain ⟨oe, vs, g1, g2, g3, g4, g5, g6⟩ := exo_get I.hok ea
  obtain ⟨mA, n1, n2, n3⟩ := xdt_get I.hok ed
  obtain ⟨od, ho, hl⟩ := lookIn_ns n1
  exact ⟨oe, od, ⟨g1, g2, by unfold PySem.W.notCls; rw [g4], by rw [g3]; exact ho⟩, mA, hl, n2⟩
theorem getx_ok {ex : Bool} {Q : Value → Shared → Prop} (I : Inv X pins σ H s) (ea : H a = some (Exo a C (some dx) b)) (ed : H dx = some (Xdt dx fs)) (x : XAt X.K C) (hna : PySem.W.findIn X.K (.ref C) f = some none) (l : fs.lookup f = some v)
    (h : ∀ u s', Inv X pins σ H s' → RelV v u → Q u s') : wpAny (model X.prog X.w) A (getAttr (.ref a) f ex) Q E s := by
  obtain ⟨oe, od, J, mA, hl, r⟩ := exc_inst I ea ed
  obtain ⟨bm, xc⟩ := x.cl
  obtain ⟨u, hu, ru⟩ := RelO.some_of (v := v) (o := mA f) (by rw [← l]; exact r f)
  have hf : PySem.W.findObj X.K C (some od) f = some (.value u) := PySem.W.findObj_own xc.hasDict hna rfl (by rw [hl, hu])
  refine wpAny_bind (wpAny_mkText ?_)
  refine byX_open (s := { s with toks := s.toks + 1 }) I.kIn J x (ga_value (s := { s with toks := s.toks + 1 }) I.kIn J hf ?_)
  exact PySem.W.handed_on (handed_of ru) (h u _ (I.tok _) ru)
end

noncomputable def tFx (K : PySem.W.Frag) (ta : TE) (f : Str) : TE := fun σ H Q => ta σ H fun x H1 => ∃ a C b dx fs v, x = .ref a ∧ H1 a = some (Exo a C (some dx) b) ∧ H1 dx = some (Xdt dx fs) ∧ XAt K C ∧ PySem.W.findIn K (.ref C) f = some none ∧ fs.lookup f = some v ∧ Q v H1
noncomputable def rIsx (K : PySem.W.Frag) : List V → Hp → VK → Prop := fun xs H Q => ∃ a C b dx fs c t r, xs = [.ref a, c] ∧ H a = some (Exo a C (some dx) b) ∧ H dx = some (Xdt dx fs) ∧ XCa K C ∧ (∀ u, RelV c u → u = t) ∧ PySem.W.kitOne K (.ref C) t = some r ∧ Q (.bl r) H
section
variable {X : Cx} {e : Expr} {f : Str} {pos : Pos} {ta : TE}
theorem pe_fx (he : PE X e ta) (hb : attributeBase e f X.env (eval e X.env) = eval e X.env) : PE X (.Attribute e f pos) (tFx X.K ta f) := by
  intro pins s σ H Q I h
  refine attr_of hb (thn (he pins s σ H _ I h) fun u s1 zq2 => ?_)
  obtain ⟨x, H1, I1, rx, a, C, b, dx, fs, v, ex, ea, ed, c, n, l, q⟩ := zq2
  subst ex
  obtain rfl : u = Value.ref a := rx
  exact getx_ok I1 ea ed c n l fun u' s2 I2 ru => ⟨v, H1, I2, ru, q⟩
theorem call_isx : CallR X (.builtin "isinstance") (rIsx X.K) := by
  intro pins s σ H xs us Q I r h
  obtain ⟨a, C, b, dx, fs, c, t, rr, rfl, ea, ed, x, hc, e, q⟩ := h
  obtain ⟨u, u2, rfl, rx, r2⟩ := vals2 r
  obtain rfl := hc _ r2
  obtain rfl : u = Value.ref a := rx
  obtain ⟨oe, od, J, _⟩ := exc_inst I ea ed
  exact PySem.W.kia_one (kitx_exc x) I.kIn ⟨oe, _, J⟩ e (fun z => nomatch z) fun tk => ⟨.bl rr, H, I.tok _, rfl, q⟩
noncomputable def rIst (K : PySem.W.Frag) : List V → Hp → VK → Prop := fun xs H Q => ∃ a C b dx fs tp cs ts r, xs = [.ref a, .ref tp] ∧ H a = some (Exo a C (some dx) b) ∧ H dx = some (Xdt dx fs) ∧ XCa K C ∧ H tp = some (.tup cs) ∧ (∀ us, Vals cs us → us = ts) ∧ PySem.W.kitAny K (.ref C) ts = some r ∧ Q (.bl r) H
theorem call_ist : CallR X (.builtin "isinstance") (rIst X.K) := by
  intro pins s σ H xs us Q I r h
  obtain ⟨a, C, b, dx, fs, tp, cs, ts, rr, rfl, ea, ed, x, et, hc, e, q⟩ := h
  obtain ⟨u, u2, rfl, rx, r2⟩ := vals2 r
  obtain rfl : u2 = Value.ref tp := r2
  obtain rfl : u = Value.ref a := rx
  obtain ⟨oe, od, J, _⟩ := exc_inst I ea ed
  obtain ⟨_, its, rv, ⟨oc, dd, odt, sl⟩, h1, h2, n, h3⟩ := (show ObjOk X.prog X.w H s.heap tp (.tup cs) from I.hok tp _ et)
  obtain rfl := hc _ rv
  simp only at h2 h3
  subst h2 h3
  exact PySem.W.kia_tup (kitx_exc x) I.kIn ⟨oe, _, J⟩ h1 e (fun z => nomatch z) fun tk => ⟨.bl rr, H, I.tok _, rfl, q⟩
end
end L2
set_option Elab.async false
set_option linter.all false
set_option maxRecDepth 100000
namespace L2
open PySem PySem.Spec PyProof.Rows
noncomputable abbrev Hd (X : Cx) (v : Value) : Cx := { X with A := X.A.mark (some v), calm := false, xe := fun _ _ => False }
theorem Inv.hold {X : Cx} {pins : List (Addr × Obj)} {σ : St} {H : Hp} {s : Shared} (I : Inv X pins σ H s) (v : Value) : Inv (Hd X v) pins σ H s :=
  ⟨⟨I.ok.mod, I.ok.kind, I.ok.glob, I.ok.blt, I.ok.above, I.ok.inj, I.ok.has, I.ok.cab, (fun z => by cases z), I.ok.frames, I.ok.stk, I.ok.exf, I.ok.bs, I.ok.bsz, I.ok.noex, I.ok.exfs, I.ok.funs, I.ok.frf⟩, I.os, I.bare, I.base, I.loc, I.cell, I.free, I.freeC, I.pin, I.hok, I.len⟩
theorem Inv.offHold {X : Cx} {pins : List (Addr × Obj)} {σ : St} {H : Hp} {s : Shared} {v : Value} (ok : X.Ok) (I : Inv (Hd X v) pins σ H s) : Inv X pins σ H s :=
  ⟨ok, I.os, I.bare, I.base, I.loc, I.cell, I.free, I.freeC, I.pin, I.hok, I.len⟩

noncomputable def XE (X : Cx) (pins : List (Addr × Obj)) (σ : St) (E : XK) (e : Value) (s' : Shared) : Prop :=
  ∃ a C d H', e = .ref a ∧ Inv X pins σ H' s' ∧ H' a = some (Exo a C d false) ∧ Flt s'.heap a .none ∧ E (.ref a) none H'
noncomputable def PEE (X : Cx) (E : XK) (e : Expr) (t : TE) : Prop :=
  ∀ (pins : List (Addr × Obj)) (s : Shared) (σ : St) (H : Hp) (Q : VK), Inv X pins σ H s → t σ H Q → wpAny (model X.prog X.w) X.A (eval e X.env) (EP X pins σ Q) (XE X pins σ E) s

section
variable {X : Cx} {pins : List (Addr × Obj)} {σ : St} {H : Hp} {s : Shared}
theorem XE.of {E : XK} {e : Value} {s' : Shared} (I : Inv X pins σ H s) (h : CXe X.prog X.w X.stack H s E e s') : XE X pins σ E e s' := by
  obtain ⟨a, C, d, H', he, os, bare, un, hok, ha, hf, hE⟩ := h
  exact ⟨a, C, d, H', he, I.call' os un hok bare (fun b z => absurd z (by simp)), ha, hf, hE⟩
theorem gone_ok {M : Model} {A : Around} {E : Value → Shared → Prop} {i : Nat} {x : Str} {pos : Pos} {Q : Unit → Shared → Prop} (I : Inv X pins σ H s) (hN : X.N.Nodup) (hi : X.N[i]? = some x) (hx : X.env.scope.names.lookup x = some .local)
    (h : ∀ s', Inv X pins (σ.set i none) H s' → Q () s') : wpAny M A (do bindName X.env x .none; unbindBehindTheSuite X.env x pos) Q E s := by
  have hcls : (X.env.scope.kind == .class || (X.env.scope.kind == .module && X.env.locals != X.env.globals)) = false := by rw [I.ok.kind]; rfl
  have hiσ : i < σ.length := by rw [I.len]; exact (List.getElem?_eq_some_iff.mp hi).1
  have hk : X.env.kindOf x = some .local := hx
  refine wpAny_bind (wpAny_bindName (store_ok (v := .non) (u := .none) I hN hi (.inl hx) rfl (fun s₁ J => ?_) (.inr hx)))
  obtain ⟨m, hn, hl⟩ := id J.loc
  have hm : (m x).isSome = true := by
    obtain ⟨u, _, q⟩ := hl i x .non hi (by rw [List.getElem?_set_self hiσ]) (.inl hx)
    rcases q with ⟨_, e⟩ | ⟨e, _⟩
    · rw [e]; rfl
    · rcases e with e | e <;> (rw [hk] at e; cases e)
  unfold unbindBehindTheSuite
  refine wpAny_onRaise ?_
  unfold unbindName
  refine wpAny_bind (wpAny_point (wpAny_bind ?_))
  unfold deleteName
  simp only [hk, hcls]
  rw [if_neg (by decide)]
  refine wpAny_bind (wpAny_nsDel_keeps hn fun h₂ v hn₂ hs₂ => ?_)
  simp only [hm, if_true, Option.isSome_some, Bool.not_true, Bool.false_eq_true, if_false]
  refine wpAny_pure (wpAny_point (h _ ?_))
  have I := J
  have cne := I.cne
  obtain ⟨oL, _, _, hoL, _⟩ := id hn
  have ne : ∀ b o, X.s₀.heap.get? b = some o → b ≠ X.env.locals := fun b o e => Nat.ne_of_lt (Nat.lt_of_lt_of_le (Heap.lt_size e) I.ok.above)
  refine ⟨I.ok, I.os, I.bare, ⟨fun b o e n hb hx => (hs₂.2 b (ne b o e)).trans (I.base.keep b o e n hb hx), fun b o e n hb hx => ?_, I.base.free, fun b o e hx => ?_, I.base.tups, I.base.frzs, I.base.tbls⟩, ⟨_, hn₂, fun j y v' e1 e2 e3 => ?_⟩, fun y c e => ?_, I.free, I.freeC, fun p hp => ?_, fun b ob e => ?_, by simpa using I.len⟩
  · obtain ⟨sl, e1⟩ := I.base.slot b o e n hb hx
    exact ⟨sl, (hs₂.2 b (ne b o e)).trans e1⟩
  · obtain ⟨o', e1⟩ := I.base.there b o e hx
    exact ⟨o', (hs₂.2 b (ne b o e)).trans e1⟩
  · by_cases hj : j = i
    · subst hj
      rw [List.getElem?_set_self (by exact hiσ)] at e2
      cases e2
    · rw [List.getElem?_set_ne (Ne.symm hj)] at e2
      obtain ⟨u', r', q⟩ := hl j y v' e1 (by rw [List.getElem?_set_ne (Ne.symm hj)]; exact e2) e3
      refine ⟨u', r', ?_⟩
      rcases q with ⟨k, e⟩ | ⟨k, c, e, z⟩
      · refine .inl ⟨k, ?_⟩
        have : y ≠ x := fun e => hj (nodup_ix hN e1 (e ▸ hi))
        simp [this, e]
      · exact .inr ⟨k, c, e, z.sameBut hs₂ (cne y c e)⟩
  · obtain ⟨w', z⟩ := I.cell y c e
    exact ⟨w', z.sameBut hs₂ (cne y c e)⟩
  · obtain ⟨e, n, ne, nf, d⟩ := I.pin p hp
    exact ⟨(hs₂.2 p.1 ne).trans e, n, ne, nf, d⟩
  · refine (I.hok b ob e).stay (fun c w' hc q => (hs₂.2 c ?_).trans q) (fun _ q => q) fun _ _ q => q
    rintro rfl
    rcases hc with rfl | hc
    · rw [I.free] at e; cases e
    · rw [I.free] at hc; cases hc
end

section
variable {M : Model} {A : Around} {E : Value → Shared → Prop} {s : Shared}
theorem leaveX' {base : Heap} {env : Env} {outer : List Env} {L e : Addr} {oe : Obj} {vs : Array Value} {Q : Unit → Shared → Prop}
    (hfr : A.frames = some (env :: outer)) (hl : s.heap.FunFrames base (env :: outer)) (hf : env.frame = some L)
    (he : s.heap.get? e = some oe) (hd : oe.data = .fields vs) (h1 : vs[1]? = some .none ∨ Flt s.heap e .none)
    (h : ∀ h', Nts (frs (env :: outer)) e .none s.heap h' → Q () { s with heap := h' }) : wpAny M A (noteFrame (.ref e) env) (fun _ s₂ => wpAny M A (setFlight (.ref e) none) Q E s₂) E s := by
  refine noteX hfr hl hf he hd h1 fun h₁ N => ?_
  obtain ⟨k1, k2, k3, T, hT, k4⟩ := N
  refine flightX (s := { s with heap := h₁ }) k4 fun h₂ f1 f2 f3 _ => h h₂ ⟨fun b o hb hbe q => f2 b o (fun z => ?_) (k1 b o hb hbe q), fun b o hb q => ?_, fun oe vs q qd => ?_, T, hT, f1⟩
  · exact absurd (Nat.lt_of_lt_of_le (Heap.lt_size q) (z ▸ hT)) (Nat.lt_irrefl _)
  · obtain ⟨sl, q'⟩ := k2 b o hb q
    exact ⟨sl, f2 b _ (fun z => absurd (Nat.lt_of_lt_of_le (Heap.lt_size q) (z ▸ hT)) (Nat.lt_irrefl _)) q'⟩
  · obtain ⟨oe', vs', q1, q2⟩ := k3 oe vs q qd
    exact ⟨oe', vs', f2 e _ (fun z => absurd (Nat.lt_of_lt_of_le (Heap.lt_size q) (z ▸ hT)) (Nat.lt_irrefl _)) q1, q2⟩
theorem matchX {K : PySem.W.Frag} {C R e : Addr} {bm bm' : List Value} {oe : Obj} {h : Heap} {g : Array GenState} {d : Drawn} {t : Nat} {os : OsState} {Q : Bool → Shared → Prop} (X : K.In h) (xC : XCl K C bm) (xR : XCl K R bm') (he : h.get? e = some oe) (hcls : oe.cls = .ref C)
    (hq : Q ((Value.ref C :: bm).contains (.ref R)) ⟨h, g, d, t, os⟩) : wpAny M A (excMatches (.ref e) (.ref R)) Q E ⟨h, g, d, t, os⟩ := by
  obtain ⟨T, nm, q, N, bs, sn, sub, ab, col, dd, k0, k1, k2, k3, k5, hC⟩ := xC.at X
  obtain ⟨T', nm', q', N', bs', sn', sub', ab', col', dd', k0', k1', k2', k3', k5', hR⟩ := xR.at X
  have hcB : (Value.ref R :: bm').contains (.type "BaseException") = true := by rw [List.contains_cons, T'.hasType PySem.F.excBase_ValueError.hasBase, Bool.or_true]
  have f := tc_notTuple
  generalize hb : (Value.ref C :: bm).contains (.ref R) = b at hq
  unfold excMatches
  repeat (first | (with_reducible refine wpAny_loadPart_at he ?_; rw [hcls]) | with_reducible refine wpAny_loadPart_at hR ?_ | (with_reducible refine wpAny_isSubtype_exc hR ?_; rw [hcB]) | (with_reducible refine wpAny_isSubtype_exc hC ?_; rw [hb]) | wp_step)
  cases b <;> (wp_walk; exact hq)
end
end L2
set_option Elab.async false
set_option linter.all false
set_option maxRecDepth 100000
namespace L2
open PySem PySem.Spec PyProof.Rows
structure FncX (P : Program) (w : World) (K : PySem.W.Frag) (mg : Str → Option Value) (base : Heap) (x : Str) (ps : List Str) (k : Nat) (sp : Sp) : Prop where
  ex : ∃ (f : Addr) (fd : FuncData), mg x = some (.ref f) ∧ PySem.W.keepIn K (.ref f) = true ∧ Binds K fd ps [] ∧ FnOk P w K mg base (CXe P w) k f fd ps sp
theorem Df.okX {P : Program} {w : World} {K : PySem.W.Frag} {mg : Str → Option Value} {base : Heap} {x : Str} {st : Stmt} {N ps : List Str} {k : Nat} {sp : Sp} (D : Df K mg x st) (S : FnScope N ps (defScope st))
    (hb : ∀ (kV doc pm : Value) (an : Option Addr) (cdv ct : Value) (us : List Value), us.length = ps.length → bindArgs (PySem.W.fnOf x x (defArgs st) (defBody st) (defScope st) .none kV doc pm an cdv ct) ⟨us, []⟩ = pure (ps.zip us))
    (len : ∀ vs H Q E, sp vs H Q E → vs.length = ps.length)
    (hbody : ∀ (f : Addr) (cdv : Value) (A : Around) (outer : List Env) (s : Shared) (H : Hp) (vs : List V) (Q : VK) (E : XK), Room k (A.deeper (envOfC x (defScope st) s.heap.objs.size f cdv)) → sp vs H Q E →
      ∃ t, PSs (cxOf (CXe P w) P w K mg base N x (defScope st) f cdv A outer s H E) (defBody st) t ∧ t { nx := fun _ H' => Q .non H', rt := Q } (start N vs) H) : FncX P w K mg base x ps (k + 1) sp := by
  obtain ⟨f, fd, hm, F⟩ := D.ex
  refine ⟨f, fd, hm, F.kp, F.binds hb, ?_⟩
  obtain ⟨oc, od, kV, doc, pm, an, cdv, ct, osl, rfl, lk, hcd⟩ := F.ex
  exact fn_of lk hcd S len fun A outer s H vs Q E hr hsp => hbody f cdv A outer s H vs Q E hr hsp

section
variable {X : Cx} {E : XK} {x : Str} {ps : List Str} {k j : Nat} {sp : Sp} {e a b : Expr} {es : List Expr} {t : TA} {te tb : TE} {tt : TT} {p pos pos' : Pos}
theorem pee_fn (F : FncX X.prog X.w X.K X.mg X.base x ps j sp) (hr : Room k X.A) (hj : j ≤ k) (hg : Gl X x) (ha : PA X.nox (e :: es) t)
    (hdb : (x == ("__debug__" : Str)) = false := by decide) (he : starEach (e :: es) X.env = (false, eval e X.env) :: starEach es X.env := by rfl) (hpl : (backTo pos (starEach es X.env)).any (·.1) = false := by rfl) :
    PEE X E (.Call (.Name x p) (e :: es) [] pos) (tCall sp [] E t) := by
  obtain ⟨f, fd, hm, hk, hb, F⟩ := F.ex
  intro pins s σ H Q I h
  refine wpAny_Call_Name_kw (ld_glob I hg hm ?_ hdb)
  refine PySem.W.callWith_K (h₀ := X.base) I.ok.mod.kin hk (wpAny_mono (ha pos pins s σ H _ (I.wish _) h) (fun us s1 ⟨vs, H1, I0, r, q⟩ => ⟨I0.kIn, ?_⟩) fun _ _ z => False.elim z) he hpl
  have I1 : Inv X pins σ H1 s1 := I0.unwish
  have r2 : Vals (vs ++ []) (us ++ []) := r.append .nil
  have hl : (us ++ []).length = ps.length := by rw [← r2.length]; exact F.len _ _ _ _ q
  refine wpAny_call (codeAny_mono ((F.mono hj).run X.A X.stack s1 H1 ⟨us, []⟩ (us ++ []) (vs ++ []) Q E hr I1.env0 (hb s1 us I1.kIn hl) r2 q) fun r s' hq => ?_)
  cases r with
  | error e => exact XE.of I1 hq
  | ok fl =>
    cases fl with
    | ret u => exact I1.after hq
    | next => exact False.elim hq
    | brk => exact False.elim hq
    | cont => exact False.elim hq
noncomputable def PSE (X : Cx) (E : XK) (st : List Stmt) (t : TS) : Prop :=
  ∀ (pins : List (Addr × Obj)) (s : Shared) (σ : St) (H : Hp) (D : Ends), Inv X pins σ H s → t D σ H → wpAny (model X.prog X.w) X.A (execs st X.env) (SP X pins D) (XE X pins σ E) s
theorem pse_set {i : Nat} (hN : X.N.Nodup) (hi : X.N[i]? = some x) (hx : Loc X.env.scope x) (he : PEE X E e te) (hs : swapsWith e (some (.Name x pos')) pos.line X.env = pure false := by rfl) (hf : X.fn x = true ∨ X.env.scope.names.lookup x = some .local := by first | exact .inl rfl | exact .inr rfl | assumption) :
    PSE X E [.Assign [.Name x pos'] e pos] (tAsg te (gName i)) := by
  intro pins s σ H D I h
  refine wpAny_execs_cons (wpAny_Assign_Name (thn (he pins s σ H _ I h) fun v s1 zq1 => ?_) hs)
  obtain ⟨y, H1, I1, r1, q1⟩ := zq1
  exact store_ok I1 hN hi hx r1 (fun s2 I2 => wpAny_execs_nil ⟨_, H1, I2, q1⟩) hf

noncomputable def Ends.gone (D : Ends) (i : Nat) : Ends := { nx := fun σ H => D.nx (σ.set i none) H, rt := D.rt, bk := fun σ H => D.bk (σ.set i none) H, ct := fun σ H => D.ct (σ.set i none) H }
noncomputable def sTry (K : PySem.W.Frag) (R : Addr) (i : Nat) (tb : XK → TS) (ts : TS) : TS := fun D σ H =>
  tb (fun v _ H' => ∃ a C d bm, v = .ref a ∧ H' a = some (Exo a C d false) ∧ XCl K C bm ∧ (Value.ref C :: bm).contains (.ref R) = true ∧ ts (D.gone i) (σ.set i (some (.ref a))) H') D σ H
set_option maxHeartbeats 800000 in
theorem ps_try {n r : Str} {i : Nat} {R : Addr} {bmR : List Value} {body suite : List Stmt} {b₀ : Stmt} {np hpos : Pos} {tb : XK → TS} {ts : TS} (hst : X.stack = X.env :: X.outer) (hfr : X.env.frame = some X.env.locals) (hN : X.N.Nodup) (hi : X.N[i]? = some n) (hloc : X.env.scope.names.lookup n = some .local)
    (hg : Gl X r) (hm : X.mg r = some (.ref R)) (xR : XCl X.K R bmR) (hb : ∀ E, PSE X E body (tb E)) (hs : ∀ v, PSs (Hd X v) (b₀ :: suite) ts) (hdb : (r == ("__debug__" : Str)) = false := by decide) :
    PS X (.Try body [.ExceptHandler (some (.Name r np)) (some n) (b₀ :: suite) hpos] [] [] pos) (sTry X.K R i tb ts) := by
  intro pins s σ H D I h
  refine wpAny_Try_except (wpAny_mono (hb _ pins s σ H D I h) (fun f s₁ hf => ?_) fun e s₁ he => ?_)
  · cases f with
    | next => exact wpAny_execs_nil hf
    | brk => exact hf
    | cont => exact hf
    | ret u => exact hf
  · obtain ⟨a, C, d, H', rfl, I1, ha, hF, a', C', d', bm, ea', ha', xC, hc, ht⟩ := he
    cases ea'
    have hCC : C = C' := by
      obtain ⟨oe, vs, g1, g2, _⟩ := exo_get I1.hok ha
      obtain ⟨oe', vs', g1', g2', _⟩ := exo_get I1.hok ha'
      rw [g1] at g1'; cases g1'
      rw [g2] at g2'; cases g2'; rfl
    subst hCC
    obtain ⟨oe, vs, g1, g2, g3, g4, g5, g6⟩ := exo_get I1.hok ha
    refine leaveX' (base := X.base) (env := X.env) (outer := X.outer) (L := X.env.locals) (by rw [I.ok.frames, hst]) (by rw [← hst]; exact I1.stack) hfr g1 g4 (.inr hF) fun h' Nt => ?_
    obtain ⟨un, hok⟩ := nts_un I1.hok ha (by rw [← hst]; exact I1.stkFree) Nt
    have J := I1.call' (s' := { s₁ with heap := h' }) rfl (by rw [hst]; exact un) hok I1.bare (fun b z => absurd z (by simp))
    rw [upd_idem ha] at J
    obtain ⟨T, _, hT⟩ := Nt.fly
    have JH := J.hold (.ref a)
    refine wpAny_handleBy_cons (codeAny_handlers_test ?_) (by intro q; cases q)
    refine ld_glob (X := Hd X (.ref a)) JH hg hm ?_ hdb
    obtain ⟨oe2, vs2, k1, k2, _⟩ := exo_get J.hok ha
    refine matchX J.kIn xC xR k1 k2 ?_
    rw [hc]
    refine codeAny_handlers_suite_as ?_
    refine flightX (s := { s₁ with heap := h' }) hT fun h2 _ _ _ same => ?_
    have J2 : Inv (Hd X (.ref a)) pins σ H' { s₁ with heap := h2 } := JH.kept (t' := s₁.toks) (fun b u q => (same rfl b).trans q)
    refine store_ok (X := Hd X (.ref a)) J2 hN hi (.inl hloc) (v := .ref a) rfl (fun s₃ J3 => ?_) (.inr hloc)
    refine wpAny_mono (hs (.ref a) pins s₃ _ H' (D.gone i) J3 ht) (fun f s₄ hf => ?_) fun _ _ z => False.elim z
    cases f with
    | next => obtain ⟨σ', H2, J4, q⟩ := hf; exact gone_ok (J4.offHold I.ok) hN hi hloc fun s' K' => ⟨_, H2, K', q⟩
    | brk => obtain ⟨σ', H2, J4, q⟩ := hf; exact gone_ok (J4.offHold I.ok) hN hi hloc fun s' K' => ⟨_, H2, K', q⟩
    | cont => obtain ⟨σ', H2, J4, q⟩ := hf; exact gone_ok (J4.offHold I.ok) hN hi hloc fun s' K' => ⟨_, H2, K', q⟩
    | ret u => obtain ⟨v, σ', H2, J4, rv, q⟩ := hf; exact gone_ok (J4.offHold I.ok) hN hi hloc fun s' K' => ⟨v, _, H2, K', rv, q⟩
end
end L2
set_option Elab.async false
set_option linter.all false
set_option maxRecDepth 100000
namespace L2
open PySem PySem.Spec PyProof.Rows
section
variable {K : PySem.W.Frag} {C R N : Addr} {dd d0 : Option Addr} {c0 oc : Value} {cd cdR : ClassData} {k0 k1 k2 k3 k5 : Option Value} {sl sl' : Array (Option Value)} {es : Array DictEntry} {n : Nat} {bm bm' : List Value}
theorem tail_base : PySem.W.tailIn K bmV bmV = true := by
  unfold PySem.W.tailIn
  rw [beq_self_eq_true]; rfl
theorem nsok_of (l : K.lookup N = some ⟨oc, d0, .dict es n, sl'⟩) (h : (es.toList.all fun e => match e.key with | .str _ _ => true | _ => false) = true) : PySem.W.nsOkIn K N = true := by
  unfold PySem.W.nsOkIn; rw [l]; dsimp only; rw [← Array.all_toList]; exact h
theorem tail_own (l : K.lookup R = some ⟨c0, d0, .cls cdR, sl⟩) (ok : PySem.W.nsOkIn K cdR.ns = true) (ni : PySem.W.nsIn K cdR.ns "__init__" = some none) (t : PySem.W.tailIn K bmV bm = true) : PySem.W.tailIn K bmV (.ref R :: bm) = true := by
  unfold PySem.W.tailIn
  simp only [l, ok, ni, t, beq_self_eq_true, Bool.and_self, Bool.or_true]
theorem xcl_of (l : K.lookup C = some ⟨.type "type", dd, .cls cd, #[k0, k1, k2, k3, some (.builtin "ValueError.__new__"), k5]⟩) (m : cd.mro = .ref C :: bm) (h1 : cd.hasDel = false) (h2 : cd.hasDict = true) (t : PySem.W.tailIn K bmV bm = true) (kp : PySem.W.keepIn K (.ref C) = true) : XCl K C bm :=
  ⟨⟨dd, cd, k0, k1, k2, k3, k5, l, m, h1, h2⟩, t, kp⟩
theorem kit_ty {h : Heap} {T : String} {b : Bool} (X : K.In h) (xC : XCl K C bm) (hk : PySem.W.kitMeta T = true) (hb : bmV.contains (.type T) = b) : PySem.W.kitOne K (.ref C) (.type T) = some b := by
  unfold PySem.W.kitOne
  rw [if_neg (show ¬ (Value.ref C == Value.type T) = true from by simp)]
  unfold PySem.W.kitCls
  simp only [hk, if_true]
  exact xC.mro X hb
end
noncomputable def fillF : List (Str × V) → List (Str × V) → List (Str × V)
  | acc, [] => acc
  | acc, (f, y) :: r => fillF (putF f y acc) r
noncomputable def spInit (names : List Str) (C : Addr) : Sp := fun vs H Q E => ∃ a ys b, vs = .ref a :: ys ∧ ys.length = names.length ∧ H a = some (Exo a C none b) ∧
  ∀ dx, H dx = none → dx ≠ a → Q .non (upd (upd H a (Exo a C (some dx) b)) dx (Xdt dx (fillF [] (names.zip ys))))
end L2
set_option Elab.async false
set_option linter.all false
set_option maxRecDepth 100000
namespace L2
open PySem PySem.Spec PyProof.Rows
structure XMk (P : Program) (w : World) (K : PySem.W.Frag) (mg : Str → Option Value) (base : Heap) (x : Str) (C : Addr) (names : List Str) (k : Nat) : Prop where
  at_ : mg x = some (.ref C)
  ca : XCa K C
  no : ∀ f ∈ names, PySem.W.findIn K (.ref C) f = some none
  ex : ∃ (f : Addr) (fd : FuncData) (bm : List Value), XCl K C bm ∧ PySem.W.findIn K (.ref C) "__init__" = some (some (.ref f)) ∧ PySem.W.isFn K (.ref f) = true ∧ Binds K fd ("self" :: names) [] ∧ FnOk P w K mg base CX0 k f fd ("self" :: names) (spInit names C)
noncomputable def tNewX (C : Addr) (names : List Str) (t : TA) : TE := fun σ H Q => t σ H fun ys H1 => ys.length = names.length ∧ names.length ≤ 900 ∧ ∀ a dx, H1 a = none → H1 dx = none → dx ≠ a →
  Q (.ref a) (upd (upd H1 a (Exo a C (some dx) true)) dx (Xdt dx (fillF [] (names.zip ys))))
section
variable {X : Cx} {x : Str} {C : Addr} {names : List Str} {k j : Nat} {e : Expr} {es : List Expr} {t : TA} {p pos : Pos}
theorem pe_mk (M : XMk X.prog X.w X.K X.mg X.base x C names j) (hr : Room k X.A) (hj : j + 1 ≤ k) (hg : Gl X x) (ha : PA X (e :: es) t)
    (hdb : (x == ("__debug__" : Str)) = false := by decide) (he : starEach (e :: es) X.env = (false, eval e X.env) :: starEach es X.env := by rfl) (hpl : (backTo pos (starEach es X.env)).any (·.1) = false := by rfl) :
    PE X (.Call (.Name x p) (e :: es) [] pos) (tNewX C names t) := by
  obtain ⟨f, fd, bm, xc, hi, hf, hb, F⟩ := M.ex
  intro pins s σ H Q I h
  refine wpAny_Call_Name_kw (ld_glob I hg M.at_ ?_ hdb)
  refine PySem.W.callWith_K (h₀ := X.base) I.ok.mod.kin xc.kp (thn (ha pos pins s σ H _ I h) fun us s1 ⟨vs, H1, I1, r, hl, hn, q⟩ => ⟨I1.kIn, ?_⟩) he hpl
  refine run_makeX (k := j) xc hi hf F (hr.mono hj) hb I1 r ⟨by omega, fun a h0 => ⟨a, vs, true, rfl, hl, upd_same .., fun dx hdx ne => ⟨rfl, ?_⟩⟩⟩
  rw [upd_upd]
  exact q a dx h0 (by rw [upd_ne ne] at hdx; exact hdx) ne
end

section
variable {K : PySem.W.Frag} {C dx a : Addr} {b : Bool} {H : Hp}
end

section
variable {X : Cx} {K : PySem.W.Frag} {e : Expr} {f : Str} {pos : Pos} {ta : TE}
theorem call_isxK (hK : X.K = K) : CallR X (.builtin "isinstance") (rIsx K) := by subst hK; exact call_isx
theorem call_istK (hK : X.K = K) : CallR X (.builtin "isinstance") (rIst K) := by subst hK; exact call_ist
theorem pe_fxK (hK : X.K = K) (he : PE X e ta) (hb : attributeBase e f X.env (eval e X.env) = eval e X.env) : PE X (.Attribute e f pos) (tFx K ta f) := by subst hK; exact pe_fx he hb
end
end L2
set_option Elab.async false
set_option linter.all false
set_option maxRecDepth 100000
namespace L2
open PySem PySem.Spec PyProof.Rows
section
variable {X : Cx} {E : XK} {e a b c : Expr} {te ta tb : TE} {tA : TT} {pos : Pos}

end
end L2
set_option Elab.async false
set_option linter.all false
set_option maxRecDepth 100000
set_option maxHeartbeats 0
namespace Kx
open PySem PySem.Spec PyProof.Rows L2 Wd
theorem b_enumerate : bootBuiltins "enumerate" = some (.type "enumerate") := by kernel_rfl
inductive Fits : Str → Str → Prop
  | num (n : Nat) (h : n < 10000) : Fits "number" (strV (.int n))
  | ltr (x : L) : Fits "letter" (toS [x])
  | turn (u : List L) (h : u ≠ []) (hl : u.length ≤ 12) : Fits "turn" (toS u)
theorem at0 {α : Type} (c : α) (t : List α) : atI (c :: t) (0 : Int) = some c := by unfold atI ixN; simp
theorem nl : ¬ ("letter" : Str) = "number" := by decide +kernel
theorem nt : ¬ ("turn" : Str) = "number" := by decide +kernel
theorem tl : ¬ ("turn" : Str) = "letter" := by decide +kernel
theorem Fits.len {k w : Str} (h : Fits k w) : w.length ≤ 12 := by
  cases h with
  | num n h => have := (nS_len h).2; exact Nat.le_trans this (by decide)
  | ltr x => rw [toS_length]; show 1 ≤ 12; decide
  | turn u h hl => rw [toS_length]; exact hl
theorem arg_at {s : Stp} (ok : s.Ok) {i : Nat} {k : Str} (h : s.form[i]? = some k) : ∃ v, s.args[i]? = some v ∧ Fits k (strV v) ∧ ((k = "number" ∧ ∃ n : Nat, n < 10000 ∧ v = .int n) ∨ (¬ k = "number" ∧ v = .str (strV v))) := by
  cases s with
  | out n =>
    match i, h with
    | 0, h => cases h; exact ⟨_, rfl, .num n ok, .inl ⟨rfl, n, ok, rfl⟩⟩
  | inn n x =>
    match i, h with
    | 0, h => cases h; exact ⟨_, rfl, .num n ok, .inl ⟨rfl, n, ok, rfl⟩⟩
    | 1, h => cases h; exact ⟨_, rfl, .ltr x, .inr ⟨nl, rfl⟩⟩
  | rng n u m =>
    obtain ⟨o1, o2, o3, o4⟩ := ok
    match i, h with
    | 0, h => cases h; exact ⟨_, rfl, .num n o1, .inl ⟨rfl, n, o1, rfl⟩⟩
    | 1, h => cases h; exact ⟨_, rfl, .turn u o2 o3, .inr ⟨nt, rfl⟩⟩
    | 2, h => cases h; exact ⟨_, rfl, .num m o4, .inl ⟨rfl, m, o4, rfl⟩⟩
theorem form_len (s : Stp) : s.form.length = s.args.length := by cases s <;> rfl
theorem args_len (s : Stp) : s.args.length ≤ 3 ∧ 1 ≤ s.args.length := by cases s <;> simp [Stp.args]
theorem ws_cons (s : Stp) : s.ws = s.hd :: s.args.map strV := rfl
theorem cut1 (v : V) (r : List V) : cutV (v :: r) (some 1) none = r := by
  unfold cutV
  have e := HT.sIx_nat (v :: r).length 0 1
  rw [show ((1 : Nat) : Int) = 1 from rfl] at e
  rw [e, HT.sIx_none]
  simp only [List.length_cons]
  rw [show min 1 (r.length + 1) = 1 by omega]
  simp
theorem ws_len {s : Stp} (ok : s.Ok) : ∀ w ∈ s.ws, w.length ≤ 12 := by
  intro w hw
  rw [ws_cons] at hw
  rcases List.mem_cons.mp hw with rfl | hw
  · cases s with
    | out n => show ("out" : Str).length ≤ 12; decide +kernel
    | inn n x => show ("in" : Str).length ≤ 12; decide +kernel
    | rng n u m => show ("ring" : Str).length ≤ 12; decide +kernel
  · obtain ⟨v, hv, rfl⟩ := List.mem_map.mp hw
    obtain ⟨i, hi⟩ := List.mem_iff_getElem?.mp hv
    have hlt : i < s.form.length := by rw [form_len]; exact (List.getElem?_eq_some_iff.mp hi).1
    obtain ⟨v', h1, h2, _⟩ := arg_at ok (List.getElem?_eq_getElem hlt)
    rw [hi] at h1
    cases h1
    exact h2.len
theorem c_zero : ("0" : Str).cps.toList = [48] := by decide +kernel
theorem log_ok {n : Nat} (h : n < 10000) : ((n : Int)).natAbs.log2 < 1920 := by
  show n.log2 < 1920
  by_cases h0 : n = 0
  · subst h0; decide
  · exact (Nat.log2_lt h0).mpr (Nat.lt_of_lt_of_le h (by decide +kernel))
end Kx
set_option Elab.async false
set_option linter.all false
set_option maxRecDepth 100000
set_option maxHeartbeats 0
namespace Kx
open PySem PySem.Spec PyProof.Rows L2 Wd
theorem ws_low (s : Stp) : ∀ w ∈ s.ws, ∀ c ∈ w.cps.toList, c < 128 := by
  have num : ∀ n : Nat, ∀ c ∈ (strV (.int n)).cps.toList, c < 128 := fun n c hc => by have := nS_good n c hc; omega
  have wd : ∀ u : List L, ∀ c ∈ (toS u).cps.toList, c < 128 := fun u c hc => by
    rw [toS_cps] at hc
    obtain ⟨x, _, rfl⟩ := List.mem_map.mp hc
    exact cp_lt x
  intro w hw
  rw [ws_cons] at hw
  rcases List.mem_cons.mp hw with rfl | hw
  · cases s with
    | out n => show ∀ c ∈ ("out" : Str).cps.toList, c < 128; rw [c_out]; intro c hc; simp at hc; omega
    | inn n x => show ∀ c ∈ ("in" : Str).cps.toList, c < 128; rw [c_in]; intro c hc; simp at hc; omega
    | rng n u m => show ∀ c ∈ ("ring" : Str).cps.toList, c < 128; rw [c_ring]; intro c hc; simp at hc; omega
  · cases s with
    | out n => simp only [Stp.args, List.map_cons, List.map_nil, List.mem_singleton] at hw; subst hw; exact num n
    | inn n x =>
      simp only [Stp.args, List.map_cons, List.map_nil, List.mem_cons, List.not_mem_nil, or_false] at hw
      rcases hw with rfl | rfl
      · exact num n
      · exact wd [x]
    | rng n u m =>
      simp only [Stp.args, List.map_cons, List.map_nil, List.mem_cons, List.not_mem_nil, or_false] at hw
      rcases hw with rfl | rfl | rfl
      · exact num n
      · exact wd u
      · exact num m
theorem leaf_ok {s : Stp} (ok : s.Ok) : ∀ v ∈ s.vs, (dV v).showable = true ∧ (dV v).hasDict = false ∧ (dV v).depth = 0 ∧ (dV v).leavesShort 13 = true ∧ (dV v).weight ≤ 14 := by
  have str : ∀ z : Str, z ∈ s.ws → (PyData.str z).showable = true ∧ (PyData.str z).hasDict = false ∧ (PyData.str z).depth = 0 ∧ (PyData.str z).leavesShort 13 = true ∧ (PyData.str z).weight ≤ 14 := fun z hz => by
    refine ⟨rfl, rfl, rfl, ?_, ?_⟩
    · show (z.cps.toList.all fun c => decide (c < 16 ^ 8)) = true
      rw [List.all_eq_true]
      exact fun c hc => decide_eq_true (Nat.lt_of_lt_of_le (ws_low s z hz c hc) (by decide))
    · show z.cps.size ≤ 14
      have : z.cps.size ≤ 12 := ws_len ok z hz
      omega
  have num : ∀ n : Nat, n < 10000 → (PyData.int n).showable = true ∧ (PyData.int n).hasDict = false ∧ (PyData.int n).depth = 0 ∧ (PyData.int n).leavesShort 13 = true ∧ (PyData.int n).weight ≤ 14 := fun n hn => by
    refine ⟨decide_eq_true (log_ok hn), rfl, rfl, ?_, ?_⟩
    · simp only [PyData.leavesShort, decide_eq_true_eq]
      exact Nat.le_trans (nS_len hn).2 (by decide)
    · show (if (n : Int) == 0 then 0 else n.log2 + 1) ≤ 14
      split
      · decide
      · rename_i h0
        have h0 : n ≠ 0 := fun e => h0 (by rw [e]; rfl)
        have := (Nat.log2_lt h0 (k := 14)).mpr (by omega)
        omega
  intro v hv
  obtain ⟨i, hi⟩ := List.mem_iff_getElem?.mp hv
  have hw : strV v ∈ s.ws := List.mem_map.mpr ⟨v, hv, rfl⟩
  cases i with
  | zero =>
    have : v = .str s.hd := by simpa [Stp.vs] using hi.symm
    subst this
    exact str s.hd hw
  | succ i =>
    have hx : s.args[i]? = some v := by simpa [Stp.vs] using hi
    have hi : i < s.form.length := by rw [form_len]; exact (List.getElem?_eq_some_iff.mp hx).1
    obtain ⟨v', h1, _, h3⟩ := arg_at ok (List.getElem?_eq_getElem hi)
    rw [hx] at h1
    cases h1
    rcases h3 with ⟨_, n, hn, e⟩ | ⟨_, e⟩
    · subst e; exact num n hn
    · rw [e]; exact str _ hw
theorem all_leaf {n : Nat} : ∀ (ds : List PyData), (∀ d ∈ ds, d.showable = true ∧ d.hasDict = false ∧ d.depth ≤ n ∧ d.leavesShort 13 = true) → PyData.showableAll ds = true ∧ PyData.hasDictAll ds = false ∧ PyData.depthAll ds ≤ n ∧ PyData.leavesShortAll 13 ds = true
  | [], _ => ⟨rfl, rfl, Nat.zero_le _, rfl⟩
  | d :: r, h => by
    obtain ⟨h1, h2, h3, h4⟩ := all_leaf r fun e he => h e (List.mem_cons_of_mem _ he)
    obtain ⟨g1, g2, g3, g4⟩ := h d List.mem_cons_self
    refine ⟨?_, ?_, ?_, ?_⟩
    · show (d.showable && PyData.showableAll r) = true
      rw [g1, h1]; rfl
    · show (d.hasDict || PyData.hasDictAll r) = false
      rw [g2, h2]; rfl
    · show max d.depth (PyData.depthAll r) ≤ n
      omega
    · show (d.leavesShort 13 && PyData.leavesShortAll 13 r) = true
      rw [g4, h4]; rfl
theorem all_weight {n : Nat} : ∀ (ds : List PyData), (∀ d ∈ ds, d.weight ≤ n) → PyData.weightAll ds ≤ ds.length * (n + 1)
  | [], _ => Nat.zero_le _
  | d :: r, h => by
    have ih := all_weight r fun e he => h e (List.mem_cons_of_mem _ he)
    have h1 := h d List.mem_cons_self
    show d.weight + 1 + PyData.weightAll r ≤ (r.length + 1) * (n + 1)
    rw [Nat.succ_mul]
    omega
theorem sh_steps {ss : List Stp} (ok : ∀ s ∈ ss, s.Ok) (h : ss.length ≤ 100) : Sh (.tuple (ss.map Stp.dt)) := by
  have one : ∀ d ∈ ss.map Stp.dt, (d.showable = true ∧ d.hasDict = false ∧ d.depth ≤ 1 ∧ d.leavesShort 13 = true) ∧ d.weight ≤ 100 := by
    intro d hd
    obtain ⟨s, hs, rfl⟩ := List.mem_map.mp hd
    have lf := leaf_ok (ok s hs)
    obtain ⟨h1, h2, h3, h4⟩ := all_leaf (n := 0) (s.vs.map dV) fun e he => by
      obtain ⟨v, hv, rfl⟩ := List.mem_map.mp he
      obtain ⟨a, b, c, d, _⟩ := lf v hv
      exact ⟨a, b, Nat.le_of_eq c, d⟩
    have hw := all_weight (n := 14) (s.vs.map dV) fun e he => by
      obtain ⟨v, hv, rfl⟩ := List.mem_map.mp he
      exact (lf v hv).2.2.2.2
    have hl : (s.vs.map dV).length ≤ 4 := by rw [List.length_map]; unfold Stp.vs; rw [List.length_cons]; have := (args_len s).1; omega
    refine ⟨⟨h1, h2, ?_, h4⟩, ?_⟩
    · show PyData.depthAll (s.vs.map dV) + 1 ≤ 1
      omega
    · show (PyData.tuple (s.vs.map dV)).weight ≤ 100
      simp only [PyData.weight]
      omega
  obtain ⟨h1, h2, h3, h4⟩ := all_leaf (n := 1) (ss.map Stp.dt) fun d hd => (one d hd).1
  have hw := all_weight (n := 100) (ss.map Stp.dt) fun d hd => (one d hd).2
  rw [List.length_map] at hw
  refine ⟨h1, h2, ?_, PyData.shown_fits (B := 13) (by decide) (by decide) h4 ?_⟩
  · show PyData.depthAll (ss.map Stp.dt) + 1 ≤ 10
    omega
  · simp only [PyData.weight]
    omega
end Kx
set_option Elab.async false
set_option linter.all false
set_option maxRecDepth 100000
namespace L2
open PySem PySem.Spec PyProof.Rows PySem.NumText Wd Kx
theorem snoc_ind {α : Type} {P : List α → Prop} (h0 : P []) (h1 : ∀ l x, P l → P (l ++ [x])) (l : List α) : P l := by
  have : ∀ r : List α, P r.reverse := fun r => by
    induction r with
    | nil => exact h0
    | cons x r ih => rw [List.reverse_cons]; exact h1 _ _ ih
  have q := this l.reverse
  rwa [List.reverse_reverse] at q
theorem dv_snoc (l : List Nat) (c : Nat) : digitsVal (l ++ [c]) = digitsVal l * 10 + (c - 48) := by
  unfold digitsVal; rw [List.foldl_append]; rfl
theorem dc_at : ∀ k : Fin 10, (Nat.digitChar k.val).toNat = k.val + 48 := by decide
theorem dv_pos : ∀ (l : List Nat), AllDigits l → ∀ c r, l = c :: r → c ≠ 48 → 0 < digitsVal l := by
  intro l
  refine snoc_ind (P := fun l => AllDigits l → ∀ c r, l = c :: r → c ≠ 48 → 0 < digitsVal l) (fun _ c r e => by cases e) (fun l x ih h c r e hc => ?_) l
  ·
    rw [dv_snoc]
    cases l with
    | nil =>
      have : x = c := (List.cons.inj e).1
      have hx := h x (by simp)
      omega
    | cons d t =>
      have e1 : d = c := (List.cons.inj e).1
      have := ih (fun y hy => h y (List.mem_append_left _ hy)) d t rfl (e1 ▸ hc)
      omega
theorem dig_canon : ∀ (l : List Nat), AllDigits l → ∀ c r, l = c :: r → c ≠ 48 → (Nat.toDigits 10 (digitsVal l)).map Char.toNat = l := by
  intro l
  refine snoc_ind (P := fun l => AllDigits l → ∀ c r, l = c :: r → c ≠ 48 → (Nat.toDigits 10 (digitsVal l)).map Char.toNat = l) (fun _ c r e => by cases e) (fun l x ih h c r e hc => ?_) l
  ·
    have hx := h x (by simp)
    rw [dv_snoc]
    cases l with
    | nil =>
      have hd : digitsVal ([] : List Nat) = 0 := rfl
      rw [hd, Nat.zero_mul, Nat.zero_add, Nat.toDigits_of_lt_base (by omega)]
      have := dc_at ⟨x - 48, by omega⟩
      simp only [List.map_cons, List.map_nil, List.nil_append]
      rw [show (Nat.digitChar (x - 48)).toNat = x - 48 + 48 from this]
      congr 1
      omega
    | cons d t =>
      have e1 : d = c := (List.cons.inj e).1
      have hl : AllDigits (d :: t) := fun y hy => h y (List.mem_append_left _ hy)
      have hp := dv_pos (d :: t) hl d t rfl (e1 ▸ hc)
      have i := ih hl d t rfl (e1 ▸ hc)
      have tt := Nat.toDigits_append_toDigits (b := 10) (n := digitsVal (d :: t)) (d := x - 48) (by decide) hp (by omega)
      rw [show digitsVal (d :: t) * 10 + (x - 48) = 10 * digitsVal (d :: t) + (x - 48) by omega, ← tt, List.map_append, i, Nat.toDigits_of_lt_base (by omega)]
      have := dc_at ⟨x - 48, by omega⟩
      simp only [List.map_cons, List.map_nil]
      rw [show (Nat.digitChar (x - 48)).toNat = x - 48 + 48 from this, show x - 48 + 48 = x by omega]
noncomputable def Figs (w : Str) : Prop := AllDigits w.cps.toList ∧ w.cps.toList ≠ []
theorem str_ext {x y : Str} (h : x.cps.toList = y.cps.toList) : x = y := by
  obtain ⟨⟨a⟩⟩ := x
  obtain ⟨⟨b⟩⟩ := y
  have : a = b := h
  rw [this]
theorem fig_iff {w : Str} (h : Figs w) : Str.ofString (toString ((digitsVal w.cps.toList : Nat) : Int)) = w ↔ w = "0" ∨ ∃ c r, w.cps.toList = c :: r ∧ c ≠ 48 := by
  constructor
  · intro e
    have q := PySem.W.KIN.signs_num (digitsVal w.cps.toList)
    rw [e] at q
    by_cases z : digitsVal w.cps.toList = 0
    · left
      rw [z] at e
      rw [← e]; decide +kernel
    · right
      cases hq : Nat.toDigits 10 (digitsVal w.cps.toList) with
      | nil => rw [hq] at q; exact absurd q h.2
      | cons d r =>
        rw [hq] at q
        exact ⟨_, _, q, dig_head _ z d r hq⟩
  · rintro (e | ⟨c, r, e, hc⟩)
    · subst e; decide +kernel
    · exact str_ext (by rw [PySem.W.KIN.signs_num]; exact dig_canon _ h.1 c r e hc)
end L2
set_option Elab.async false
set_option linter.all false
set_option maxRecDepth 100000
namespace L2
open PySem PySem.Spec PyProof.Rows Wd
section
variable {X : Cx}
end
end L2
set_option Elab.async false
set_option linter.all false
set_option maxRecDepth 100000
namespace L2
open PySem PySem.Spec PyProof.Rows
section
variable {X : Cx}
theorem op_in_K {K : PySem.W.Frag} (hK : X.K = K) : OpR X (compareOp .In) (rIn K false) := by
  subst hK
  exact op_in_seq
end
end L2
set_option Elab.async false
set_option linter.all false
set_option maxRecDepth 100000
set_option maxHeartbeats 0
namespace Kx
open PySem PySem.Spec PyProof.Rows PySem.NumText L2 Wd
theorem ns_keys {K : PySem.W.Frag} {w : World} {a : Addr} {es : Array DictEntry} {n : Nat} {ks : List Str} (hl : K.lookup a = some ⟨.type "dict", none, .dict es n, #[]⟩) (hk : PySem.W.KeysLit w.params es.toList) (hn : es.toList.map keyT = ks) (z : Str) : ∃ r, PySem.W.nsIn K a z = some r ∧ r.isSome = ks.any (fun y => y == z) := by
  have hs : ∀ e ∈ es.toList, e.key.isStr z = (keyT e == z) ∧ e.refKey = false := fun e he => by
    obtain ⟨x, t, e1, _⟩ := hk.all e he
    unfold keyT DictEntry.refKey
    rw [e1]
    exact ⟨rfl, rfl⟩
  have ha : es.toList.any (fun e => e.key.isStr z) = ks.any (fun y => y == z) := by
    rw [← hn, List.any_map, Bool.eq_iff_iff, List.any_eq_true, List.any_eq_true]
    exact ⟨fun ⟨e, he, q⟩ => ⟨e, he, by rw [(hs e he).1] at q; exact q⟩, fun ⟨e, he, q⟩ => ⟨e, he, by rw [(hs e he).1]; exact q⟩⟩
  have hr : es.toList.any (fun e => e.refKey) = false := by
    rw [List.any_eq_false]
    intro e he
    rw [(hs e he).2]
    decide
  unfold PySem.W.nsIn
  rw [hl]
  dsimp only
  cases hf : es.toList.find? (fun e => e.key.isStr z) with
  | some e => exact ⟨some e.val, rfl, by rw [← ha]; exact (List.any_eq_true.mpr ⟨e, List.mem_of_find?_eq_some hf, List.find?_some hf⟩).symm⟩
  | none =>
    refine ⟨none, by dsimp only; rw [hr]; rfl, ?_⟩
    rw [← ha]
    exact (List.any_eq_false.mpr fun e he q => List.find?_eq_none.mp hf e he q).symm
noncomputable def isDig (c : Nat) : Bool := decide (48 ≤ c) && decide (c ≤ 57)
theorem dig_in2 (c : Nat) : (!(Builtin.Str.occurrences ("0123456789" : Str) (⟨#[c]⟩ : Str) 0 ("0123456789" : Str).length 1).isEmpty) = isDig c := by
  rw [StrLaws.found_one]
  have e : ("0123456789" : Str).cps.toList = [48, 49, 50, 51, 52, 53, 54, 55, 56, 57] := by decide +kernel
  rw [e]
  unfold isDig
  rw [Bool.eq_iff_iff, Bool.and_eq_true, decide_eq_true_iff, decide_eq_true_iff, decide_eq_true_iff, show [48, 49, 50, 51, 52, 53, 54, 55, 56, 57] = List.range' 48 10 from rfl, List.mem_range'_1]
  exact ⟨fun h => ⟨h.1, Nat.le_of_lt_succ h.2⟩, fun h => ⟨h.1, Nat.lt_succ_of_le h.2⟩⟩
theorem dig_list (c : Nat) : inV (.str ⟨#[c]⟩) (L2.signs ("0123456789" : Str)) = isDig c := by
  have e : L2.signs ("0123456789" : Str) = [48, 49, 50, 51, 52, 53, 54, 55, 56, 57].map fun c => V.str ⟨#[c]⟩ := by
    have e : ("0123456789" : Str).cps.toList = [48, 49, 50, 51, 52, 53, 54, 55, 56, 57] := by decide +kernel
    unfold L2.signs
    rw [e]
  have q : ∀ a b : Nat, eqV (V.str ⟨#[a]⟩) (V.str ⟨#[b]⟩) = decide (a = b) := fun a b => by
    show ((⟨#[a]⟩ : Str) == ⟨#[b]⟩) = _
    rw [Bool.eq_iff_iff, beq_iff_eq, decide_eq_true_iff]
    exact ⟨fun h => by have := congrArg (fun s : Str => s.cps.getD 0 0) h; exact this, fun h => by rw [h]⟩
  unfold inV isDig
  rw [e, List.any_map, Bool.eq_iff_iff, List.any_eq_true, Bool.and_eq_true, decide_eq_true_iff, decide_eq_true_iff, show [48, 49, 50, 51, 52, 53, 54, 55, 56, 57] = List.range' 48 10 from rfl]
  constructor
  · rintro ⟨a, ha, h⟩
    have h := of_decide_eq_true ((q a c).symm.trans h)
    subst h
    have h := List.mem_range'_1.mp ha
    exact ⟨h.1, Nat.le_of_lt_succ h.2⟩
  · intro h
    exact ⟨c, List.mem_range'_1.mpr ⟨h.1, Nat.lt_succ_of_le h.2⟩, (q c c).trans (decide_eq_true rfl)⟩
noncomputable def headOk (z : Str) : Bool := decide (z = "0") || !decide (z.cps.toList.head? = some 48)
noncomputable def figB (z : Str) : Bool := decide (1 ≤ z.length) && decide (z.length ≤ 4) && z.cps.toList.all isDig && headOk z
theorem alld {z : Str} (h : z.cps.toList.all isDig = true) : AllDigits z.cps.toList := fun c hc => by
  have := List.all_eq_true.mp h c hc
  unfold isDig at this
  rw [Bool.and_eq_true, decide_eq_true_iff, decide_eq_true_iff] at this
  exact this
noncomputable def valS (z : Str) : Int := ((digitsVal z.cps.toList : Nat) : Int)
theorem len_ne {z : Str} (h : 1 ≤ z.length) : z.cps.toList ≠ [] := fun e => by
  have : z.cps.toList.length = z.length := Array.length_toList ..
  rw [e] at this
  simp at this
  omega
theorem int_of {z : Str} (h : z.cps.toList.all isDig = true) (h1 : 1 ≤ z.length) (h4 : z.length ≤ 4) : PySem.intText? z = some (valS z) := intText_digits (alld h) (len_ne h1) (by omega)
theorem head_iff {z : Str} (h : z.cps.toList.all isDig = true) (h1 : 1 ≤ z.length) : decide (V.str (Str.ofString (toString (valS z))) = V.str z) = headOk z := by
  have q := fig_iff (w := z) ⟨alld h, len_ne h1⟩
  unfold headOk
  rw [Bool.eq_iff_iff, decide_eq_true_iff, Bool.or_eq_true, decide_eq_true_iff, Bool.not_eq_true', decide_eq_false_iff_not]
  constructor
  · intro e
    rcases q.mp (V.str.inj e) with e | ⟨c, r, e, hc⟩
    · exact .inl e
    · right
      rw [e]
      intro e2
      exact hc (Option.some.inj e2)
  · intro hh
    refine congrArg V.str (q.mpr ?_)
    rcases hh with e | e
    · exact .inl e
    · right
      cases hz : z.cps.toList with
      | nil => exact absurd hz (len_ne h1)
      | cons c r => exact ⟨c, r, rfl, fun e2 => e (by rw [hz, e2]; rfl)⟩
theorem val_small {z : Str} (h : z.cps.toList.all isDig = true) (h4 : z.length ≤ 4) : 0 ≤ valS z ∧ valS z < 10000 := by
  have key : ∀ l : List Nat, AllDigits l → digitsVal l < 10 ^ l.length := fun l => by
    refine snoc_ind (P := fun l => AllDigits l → digitsVal l < 10 ^ l.length) (fun _ => by decide) (fun l x ih hl => ?_) l
    have i := ih fun y hy => hl y (List.mem_append_left _ hy)
    have hx := hl x (by simp)
    rw [dv_snoc, List.length_append, List.length_singleton, Nat.pow_succ]
    omega
  have := key _ (alld h)
  have hl : z.cps.toList.length ≤ 4 := by rw [Array.length_toList]; exact h4
  have h10 : 10 ^ z.cps.toList.length ≤ 10 ^ 4 := Nat.pow_le_pow_right (by decide) hl
  unfold valS
  omega
noncomputable def turnB (z : Str) : Bool := !decide (z = "") && isW 6 z
inductive Kd where
  | num | ltr | trn
noncomputable def Kd.name : Kd → Str
  | .num => "number" | .ltr => "letter" | .trn => "turn"
noncomputable def Kd.sgn : Kd → Nat
  | .num => 110 | .ltr => 108 | .trn => 116
noncomputable def standB : Kd → Str → Bool
  | .num, z => figB z | .ltr, z => isLet z | .trn, z => turnB z
noncomputable def formOf (z : Str) : Option (List Kd) := if z = "out" then some [.num] else if z = "in" then some [.num, .ltr] else if z = "ring" then some [.num, .trn, .num] else none
noncomputable def wr : List Kd → List Str → Nat → Option Nat
  | [], [], _ => none
  | [], _ :: _, n => some n
  | _ :: _, [], n => some n
  | k :: f, w :: r, n => if standB k w = true then wr f r (n + 1) else some n
noncomputable def wrongOf (ws : List Str) : Option Nat := match ws with
  | [] => some 0
  | w :: r => match formOf w with
    | none => some 0
    | some f => wr f r 1
noncomputable def kdV : Kd → Str → V
  | .num, z => .int (valS z) | _, z => .str z
noncomputable def stepV : List Str → List V
  | [] => []
  | w :: r => match formOf w with
    | none => []
    | some f => .str w :: List.zipWith kdV f r
theorem wrong_none {w0 : Str} {r : List Str} (h : formOf w0 = none) : wrongOf (w0 :: r) = some 0 := by
  show (match formOf w0 with | none => some 0 | some f => wr f r 1) = _
  rw [h]
theorem wrong_some {w0 : Str} {r : List Str} {f : List Kd} (h : formOf w0 = some f) : wrongOf (w0 :: r) = wr f r 1 := by
  show (match formOf w0 with | none => some 0 | some f => wr f r 1) = _
  rw [h]
theorem stepV_some {w0 : Str} {r : List Str} {f : List Kd} (h : formOf w0 = some f) : stepV (w0 :: r) = .str w0 :: List.zipWith kdV f r := by
  show (match formOf w0 with | none => [] | some f => V.str w0 :: List.zipWith kdV f r) = _
  rw [h]
theorem wr_ok : ∀ (f : List Kd) (r : List Str) (n : Nat), wr f r n = none → f.length = r.length ∧ ∀ (i : Nat) (k : Kd) (w : Str), f[i]? = some k → r[i]? = some w → standB k w = true
  | [], [], _, _ => ⟨rfl, fun i k w h => by simp at h⟩
  | [], _ :: _, _, h => by cases h
  | _ :: _, [], _, h => by cases h
  | k :: f, w :: r, n, h => by
    unfold wr at h
    split at h
    · rename_i hs
      obtain ⟨h1, h2⟩ := wr_ok f r (n + 1) h
      refine ⟨by simp [h1], fun i k' w' hk hw => ?_⟩
      cases i with
      | zero =>
        have e1 : k = k' := by simpa using hk
        have e2 : w = w' := by simpa using hw
        subst e1 e2
        exact hs
      | succ i => exact h2 i k' w' (by simpa using hk) (by simpa using hw)
    · cases h
theorem wr_step {f : List Kd} {r : List Str} {i : Nat} {k : Kd} {w : Str} {n : Nat} (hk : f[i]? = some k) (hw : r[i]? = some w) (h : standB k w = true) : wr (f.drop i) (r.drop i) n = wr (f.drop (i + 1)) (r.drop (i + 1)) (n + 1) := by
  obtain ⟨h1, e1⟩ := List.getElem?_eq_some_iff.mp hk
  obtain ⟨h2, e2⟩ := List.getElem?_eq_some_iff.mp hw
  rw [List.drop_eq_getElem_cons h1, List.drop_eq_getElem_cons h2, e1, e2]
  show (if _ then _ else _) = _
  rw [if_pos h]
theorem wr_bad {f : List Kd} {r : List Str} {i : Nat} {k : Kd} {w : Str} {n : Nat} (hk : f[i]? = some k) (hw : r[i]? = some w) (h : standB k w = false) : wr (f.drop i) (r.drop i) n = some n := by
  obtain ⟨h1, e1⟩ := List.getElem?_eq_some_iff.mp hk
  obtain ⟨h2, e2⟩ := List.getElem?_eq_some_iff.mp hw
  rw [List.drop_eq_getElem_cons h1, List.drop_eq_getElem_cons h2, e1, e2]
  show (if _ then _ else _) = _
  rw [if_neg (by rw [h]; decide)]
theorem wr_more {f : List Kd} {r : List Str} {n : Nat} (hw : f.length < r.length) : wr (f.drop f.length) (r.drop f.length) n = some n := by
  rw [List.drop_length, List.drop_eq_getElem_cons hw]
  rfl
theorem wr_less {f : List Kd} {r : List Str} {n : Nat} (hw : r.length < f.length) : wr (f.drop r.length) (r.drop r.length) n = some n := by
  rw [List.drop_length, List.drop_eq_getElem_cons hw]
  rfl
theorem wr_done {f : List Kd} {r : List Str} {n : Nat} (hw : r.length = f.length) : wr (f.drop r.length) (r.drop r.length) n = none := by
  rw [List.drop_length, hw, List.drop_length]
  rfl
end Kx
namespace Kx
open PySem PySem.Spec PyProof.Rows PySem.NumText L2 Wd
noncomputable def spLetter5 : Sp := fun vs H Q _ => ∃ z : Str, vs = [.str z] ∧ Q (.bl (isLet z)) H
noncomputable def spIsW5 : Sp := fun vs H Q _ => ∃ z : Str, vs = [.int 6, .str z] ∧ z.length ≤ 5000 ∧ ∀ H', Same H H' → Q (.bl (isW 6 z)) H'
noncomputable def spFigG : Sp := fun vs H Q _ => ∃ z : Str, vs = [.str z] ∧ z.length ≤ 5000 ∧ ∀ H', Same H H' → Q (.bl (figB z)) H'
noncomputable def spStandG : Sp := fun vs H Q _ => ∃ (k : Kd) (z : Str), vs = [.str k.name, .str z] ∧ z.length ≤ 5000 ∧ ∀ H', Same H H' → Q (.bl (standB k z)) H'
noncomputable def optV : Option Nat → V
  | none => .non
  | some n => .int (n : Int)
structure Wds (ws : List Str) : Prop where
  ne : ws ≠ []
  n : ws.length ≤ 6000
  l : ∀ w ∈ ws, w.length ≤ 5000
noncomputable def spWrongG : Sp := fun vs H Q _ => ∃ (ws : List Str) (l : Addr), vs = [.ref l] ∧ H l = some (.lst (ws.map V.str)) ∧ Wds ws ∧ ∀ H', Same H H' → Q (optV (wrongOf ws)) H'
noncomputable def spStepG : Sp := fun vs H Q _ => ∃ (ws : List Str) (l : Addr), vs = [.ref l] ∧ H l = some (.lst (ws.map V.str)) ∧ Wds ws ∧ wrongOf ws = none ∧ ∀ p H', H p = none → H' p = some (.tup (stepV ws)) → Same H H' → Q (.ref p) H'
structure FmG (K : PySem.W.Frag) (w : World) (mg : Str → Option Value) (aF : Addr) : Prop where
  mgF : mg "FORMS" = some (.ref aF)
  dF : DTx K w aF
  lo : (aF == sysModules) = false
  no : ∀ z : Str, formOf z = none → PySem.W.nsIn K aF z = some none
  get : ∀ (z : Str) (f : List Kd), formOf z = some f → ∃ b, PySem.W.nsIn K aF z = some (some (.ref b)) ∧ ∀ H, SqT K H b (f.map fun k => V.str k.name)
theorem form_lenG {z : Str} {f : List Kd} (h : formOf z = some f) : 1 ≤ f.length ∧ f.length ≤ 3 := by
  unfold formOf at h
  split at h
  · cases h; decide
  · split at h
    · cases h; decide
    · split at h
      · cases h; decide
      · cases h
theorem atI_get {α : Type} {xs : List α} {i : Nat} {x : α} (h : xs[i]? = some x) : atI xs (i : Int) = some x := by
  have hi := (List.getElem?_eq_some_iff.mp h).1
  unfold atI ixN
  rw [if_pos (by omega), if_pos (by omega)]
  show xs[((i : Nat) : Int).toNat]? = _
  rw [Int.toNat_natCast]
  exact h
theorem zip_snoc {f : List Kd} {r : List Str} {i : Nat} {k : Kd} {w : Str} (hk : f[i]? = some k) (hw : r[i]? = some w) : (List.zipWith kdV f r).take (i + 1) = (List.zipWith kdV f r).take i ++ [kdV k w] := by
  have e : (List.zipWith kdV f r)[i]? = some (kdV k w) := by rw [List.getElem?_zipWith, hk, hw]
  rw [List.take_add_one, e]
  rfl
theorem fig_int {z : Str} (h : figB z = true) : PySem.intText? z = some (valS z) ∧ z.length ≤ 4 := by
  unfold figB at h
  rw [Bool.and_eq_true, Bool.and_eq_true, Bool.and_eq_true, decide_eq_true_iff, decide_eq_true_iff] at h
  exact ⟨int_of h.1.2 h.1.1.1 h.1.1.2, h.1.1.2⟩
noncomputable def partsOf (z : Str) : List (List Str) := (Txt.split z "; ").map fun p => Txt.split p " "
noncomputable def firstBad : List (List Str) → Nat → Option (Nat × Nat)
  | [], _ => none
  | ws :: r, i => match wrongOf ws with
    | some p => some (i, p)
    | none => firstBad r (i + 1)
inductive StG (H : Hp) : List V → List (List Str) → Prop
  | nil : StG H [] []
  | snoc {xs : List V} {ps : List (List Str)} {a : Addr} {ws : List Str} : StG H xs ps → H a = some (.tup (stepV ws)) → wrongOf ws = none → StG H (xs ++ [.ref a]) (ps ++ [ws])
theorem StG.same {H H' : Hp} {xs : List V} {ps : List (List Str)} (h : StG H xs ps) (s : ∀ a ys, H a = some (.tup ys) → H' a = some (.tup ys)) : StG H' xs ps := by
  induction h with
  | nil => exact .nil
  | snoc h1 h2 h3 ih => exact .snoc ih (s _ _ h2) h3
theorem StG.length {H : Hp} {xs : List V} {ps : List (List Str)} (h : StG H xs ps) : xs.length = ps.length := by
  induction h with
  | nil => rfl
  | snoc h1 h2 h3 ih => rw [List.length_append, List.length_append, ih]; rfl
theorem bad_step {ps : List (List Str)} {i : Nat} {ws : List Str} (h : ps[i]? = some ws) (hw : wrongOf ws = none) : firstBad (ps.drop i) i = firstBad (ps.drop (i + 1)) (i + 1) := by
  obtain ⟨hi, e⟩ := List.getElem?_eq_some_iff.mp h
  rw [List.drop_eq_getElem_cons hi, e]
  show (match wrongOf ws with | some p => some (i, p) | none => _) = _
  rw [hw]
theorem bad_here {ps : List (List Str)} {i n : Nat} {ws : List Str} (h : ps[i]? = some ws) (hw : wrongOf ws = some n) : firstBad (ps.drop i) i = some (i, n) := by
  obtain ⟨hi, e⟩ := List.getElem?_eq_some_iff.mp h
  rw [List.drop_eq_getElem_cons hi, e]
  show (match wrongOf ws with | some p => some (i, p) | none => _) = _
  rw [hw]
structure Tx (z : Str) : Prop where
  len : z.length ≤ 5000
  n : (Txt.split z "; ").length ≤ 6000
  pl : ∀ p ∈ Txt.split z "; ", p.length ≤ 5000
  wd : ∀ p ∈ Txt.split z "; ", Wds (Txt.split p " ")
noncomputable def spReadG (CT : Addr) : Sp := fun vs H Q E => ∃ z : Str, vs = [.str z] ∧ Tx z ∧ (z = "-" → ∀ p H', H' p = some (.tup []) → Same H H' → Q (.ref p) H') ∧
  (z ≠ "-" → firstBad (partsOf z) 0 = none → ∀ p xs H', H' p = some (.tup xs) → StG H' xs (partsOf z) → Same H H' → Q (.ref p) H') ∧
  (z ≠ "-" → ∀ i n, firstBad (partsOf z) 0 = some (i, n) → ∀ a dx H', H' a = some (Exo a CT (some dx) false) → H' dx = some (Xdt dx [("step", .int (i : Nat)), ("word", .int (n : Nat))]) → Same H H' → E (.ref a) none H')
noncomputable def spFitsG : Sp := fun vs H Q _ => ∃ (k : Kd) (z : Str), vs = [.str ⟨#[k.sgn]⟩, .str z] ∧ z.length ≤ 5000 ∧ ∀ H', Same H H' → Q (.bl (standB k z)) H'
noncomputable def spStepIn : Sp := fun vs H Q _ => ∃ (ws : List Str) (l : Addr), vs = [.ref l] ∧ H l = some (.lst (ws.map V.str)) ∧ Wds ws ∧ (∀ n, wrongOf ws = some n → ∀ H', Same H H' → Q (.int (n : Nat)) H') ∧ (wrongOf ws = none → ∀ p H', H p = none → H' p = some (.tup (stepV ws)) → Same H H' → Q (.ref p) H')
theorem ok6 (c : Nat) : okC 6 c = (ltr c).isSome := by
  unfold okC
  cases h : ltr c with
  | none => rfl
  | some x =>
    have : ((x.val % 6 : Nat) : Int) < 6 := by omega
    exact decide_eq_true this
theorem fil_len (z : Str) : decide (V.int (((z.cps.toList.filter fun c => okC 6 c).map fun c => V.str ⟨#[c]⟩).length : Int) = V.int (z.length : Int)) = isW 6 z := by
  rw [List.length_map]
  unfold isW
  have hl : z.cps.toList.length = z.length := Array.length_toList ..
  rw [Bool.eq_iff_iff, decide_eq_true_iff, List.all_eq_true]
  constructor
  · intro e c hc
    have e := V.int.inj e
    have e : (z.cps.toList.filter fun c => okC 6 c).length = z.cps.toList.length := by omega
    have := List.length_filter_eq_length_iff.mp e
    exact this c hc
  · intro h
    have := List.length_filter_eq_length_iff.mpr h
    refine congrArg V.int ?_
    have e : (z.cps.toList.filter fun c => okC 6 c).length = z.cps.toList.length := this
    omega
theorem let_one (z : Str) : isLet z = (isW 6 z && decide (z.length = 1)) := by
  have hl : z.cps.toList.length = z.length := Array.length_toList ..
  unfold isLet isW
  cases hz : z.cps.toList with
  | nil =>
    rw [hz] at hl
    have : z.length = 0 := by simp at hl; omega
    rw [this]
    rfl
  | cons c r =>
    rw [hz] at hl
    cases r with
    | nil =>
      have : z.length = 1 := by simp at hl; omega
      rw [this]
      show (ltr c).isSome = ((okC 6 c && true) && true)
      rw [ok6, Bool.and_true, Bool.and_true]
    | cons d r =>
      have : ¬ z.length = 1 := by simp at hl; omega
      rw [decide_eq_false this, Bool.and_false]
theorem turn_any (z : Str) : turnB z = (isW 6 z && (decide (z.length = 1) || decide (1 < z.length))) := by
  have hl : z.cps.toList.length = z.length := Array.length_toList ..
  have e : decide (z = "") = decide (z.length = 0) := by
    rw [Bool.eq_iff_iff, decide_eq_true_iff, decide_eq_true_iff]
    constructor
    · intro e
      rw [e]
      decide +kernel
    · intro e
      have : z.cps.toList = [] := List.eq_nil_of_length_eq_zero (by omega)
      exact str_ext (by rw [this]; decide +kernel)
  unfold turnB
  rw [e, Bool.and_comm]
  congr 1
  rw [Bool.eq_iff_iff, Bool.not_eq_true', decide_eq_false_iff_not, Bool.or_eq_true, decide_eq_true_iff, decide_eq_true_iff]
  omega
theorem let_nofig {z : Str} (h : isW 6 z = true) (h1 : 1 ≤ z.length) : figB z = false := by
  unfold figB
  cases hz : z.cps.toList with
  | nil => exact absurd hz (len_ne h1)
  | cons c r =>
    unfold isW at h
    rw [hz, List.all_cons, Bool.and_eq_true, ok6] at h
    obtain ⟨x, hx⟩ := Option.isSome_iff_exists.mp h.1
    have hc := ltr_some hx
    have q : ∀ x : L, isDig (cp x) = false := by decide
    have : isDig c = false := by rw [← hc]; exact q x
    rw [List.all_cons, this]
    simp
theorem kd_val {k : Kd} {z : Str} (h : standB k z = true) : kdV k z = if figB z = true then .int (valS z) else .str z := by
  cases k with
  | num =>
    have h : figB z = true := h
    rw [if_pos h]
    rfl
  | ltr =>
    have h : isLet z = true := h
    rw [let_one, Bool.and_eq_true, decide_eq_true_iff] at h
    rw [if_neg (by rw [let_nofig h.1 (by omega)]; decide)]
    rfl
  | trn =>
    have h : turnB z = true := h
    rw [turn_any, Bool.and_eq_true, Bool.or_eq_true, decide_eq_true_iff, decide_eq_true_iff] at h
    rw [if_neg (by rw [let_nofig h.1 (by omega)]; decide)]
    rfl
theorem head_nofig {w0 : Str} {f : List Kd} (h : formOf w0 = some f) : figB w0 = false := by
  unfold formOf at h
  split at h
  · rename_i e; rw [e]; decide +kernel
  · split at h
    · rename_i e; rw [e]; decide +kernel
    · split at h
      · rename_i e; rw [e]; decide +kernel
      · cases h
theorem step_vals {w0 : Str} {r : List Str} {f : List Kd} (hf : formOf w0 = some f) (hn : wr f r 1 = none) : stepV (w0 :: r) = (w0 :: r).map fun z => if figB z = true then V.int (valS z) else .str z := by
  obtain ⟨h1, h2⟩ := wr_ok _ _ _ hn
  rw [stepV_some hf, List.map_cons, if_neg (by rw [head_nofig hf]; decide)]
  congr 1
  apply List.ext_getElem?
  intro i
  rw [List.getElem?_zipWith, List.getElem?_map]
  cases hr : r[i]? with
  | none =>
    have : f[i]? = none := by
      rw [List.getElem?_eq_none_iff] at hr ⊢
      omega
    rw [this]
    rfl
  | some w =>
    have hi := (List.getElem?_eq_some_iff.mp hr).1
    have hk : f[i]? = some f[i] := List.getElem?_eq_getElem (by omega)
    rw [hk]
    exact congrArg some (kd_val (h2 i _ w hk hr))
noncomputable def sgnS (f : List Kd) : Str := ⟨(f.map Kd.sgn).toArray⟩
theorem sgnS_len (f : List Kd) : (sgnS f).length = f.length := by unfold sgnS Str.length; simp
theorem sgnS_at {f : List Kd} {i : Nat} {k : Kd} (h : f[i]? = some k) : atI (sgnS f).cps.toList (i : Int) = some k.sgn := by
  refine atI_get ?_
  unfold sgnS
  rw [List.toList_toArray, List.getElem?_map, h]
  rfl
noncomputable def kkv : List (Key × V) := [(kS "out", .str "n"), (kS "in", .str "nl"), (kS "ring", .str "ntn")]
theorem m_kkv : mergeK [] kkv = kkv := by
  have n1 : ¬ (kS "out" = kS "in") := by decide +kernel
  have n2 : ¬ (kS "out" = kS "ring") := by decide +kernel
  have n3 : ¬ (kS "in" = kS "ring") := by decide +kernel
  simp [mergeK, putK, kkv, n1, n2, n3]
theorem kkv_get (w : Str) : (valV kkv (kS w)).getD .non = match formOf w with
    | none => .non
    | some f => .str (sgnS f) := by
  have nk : ∀ a b : Str, a ≠ b → ¬ (kS a = kS b) := fun a b h e => h (Sum.inr.inj e)
  unfold formOf kkv
  by_cases h1 : w = "out"
  · subst h1
    rw [valV_hit, if_pos rfl]
    exact congrArg V.str (by decide +kernel)
  · rw [valV_skip (nk _ _ (fun e => h1 e.symm)), if_neg h1]
    by_cases h2 : w = "in"
    · subst h2
      rw [valV_hit, if_pos rfl]
      exact congrArg V.str (by decide +kernel)
    · rw [valV_skip (nk _ _ (fun e => h2 e.symm)), if_neg h2]
      by_cases h3 : w = "ring"
      · subst h3
        rw [valV_hit, if_pos rfl]
        exact congrArg V.str (by decide +kernel)
      · rw [valV_skip (nk _ _ (fun e => h3 e.symm)), if_neg h3]
        rfl
end Kx
set_option Elab.async false
set_option linter.all false
set_option maxRecDepth 100000
set_option maxHeartbeats 0
namespace Kx
open PySem PySem.Spec PyProof.Rows PySem.NumText L2 Wd
theorem part_sh {x y a : Str} (h : a ∈ Txt.split x y) : a.length ≤ x.length := part_short h
theorem wds_of {p : Str} (h : p.length ≤ 5000) : Wds (Txt.split p " ") where
  ne := fun e => by have := split_pos p " "; rw [e] at this; exact absurd this (by decide)
  n := by have := split_le p " "; omega
  l := fun w hw => by have := part_sh hw; omega
theorem tx_of {z : Str} (h : z.length ≤ 5000) : Tx z where
  len := h
  n := by have := split_le z "; "; omega
  pl := fun p hp => by have := part_sh hp; omega
  wd := fun p hp => wds_of (by have := part_sh hp; omega)
noncomputable def stD (ws : List Str) : PyData := .tuple ((stepV ws).map dV)
noncomputable def dueD (z : Str) : PyData := if z = "-" then .tuple [] else match firstBad (partsOf z) 0 with
  | none => .tuple ((partsOf z).map stD)
  | some (i, n) => .tuple [.str "no", .int (i : Nat), .int (n : Nat)]
theorem due_dash : dueD "-" = .tuple [] := if_pos rfl
theorem due_ok {z : Str} (h : z ≠ "-") (hb : firstBad (partsOf z) 0 = none) : dueD z = .tuple ((partsOf z).map stD) := by
  unfold dueD
  rw [if_neg h, hb]
theorem due_bad {z : Str} {i n : Nat} (h : z ≠ "-") (hb : firstBad (partsOf z) 0 = some (i, n)) : dueD z = .tuple [.str "no", .int (i : Nat), .int (n : Nat)] := by
  unfold dueD
  rw [if_neg h, hb]
noncomputable def isSI : V → Bool
  | .int _ => true | .str _ => true | _ => false
theorem dts_plain {H : Hp} : ∀ (vs : List V), (∀ v ∈ vs, isSI v = true) → Dts H vs (vs.map dV)
  | [], _ => .nil
  | v :: r, h => by
    have h1 := h v List.mem_cons_self
    have ih := dts_plain (H := H) r fun x hx => h x (List.mem_cons_of_mem _ hx)
    cases v with
    | int i => exact .cons (.int i) ih
    | str z => exact .cons (.str z) ih
    | _ => exact absurd h1 (fun e => Bool.noConfusion e)
theorem step_plain (ws : List Str) (h : wrongOf ws = none) : ∀ v ∈ stepV ws, isSI v = true := by
  cases ws with
  | nil => intro v hv; exact absurd hv (List.not_mem_nil)
  | cons w0 r =>
    cases hf : formOf w0 with
    | none => rw [wrong_none hf] at h; cases h
    | some f =>
      rw [wrong_some hf] at h
      rw [step_vals hf h]
      intro v hv
      obtain ⟨z, _, rfl⟩ := List.mem_map.mp hv
      split <;> rfl
theorem Dts.snoc {H : Hp} {v : V} {d : PyData} : ∀ {xs : List V} {ds : List PyData}, Dts H xs ds → Dt H v d → Dts H (xs ++ [v]) (ds ++ [d])
  | _, _, .nil, q => .cons q .nil
  | _, _, .cons a r, q => .cons a (Dts.snoc r q)
theorem StG.dts {H : Hp} {xs : List V} {ps : List (List Str)} (h : StG H xs ps) : Dts H xs (ps.map stD) := by
  induction h with
  | nil => exact .nil
  | snoc h1 h2 h3 ih =>
    rw [List.map_append]
    exact Dts.snoc ih (.tup h2 (dts_plain _ (step_plain _ h3)))
structure Lf (d : PyData) (k : Nat) : Prop where
  sh : d.showable = true
  nd : d.hasDict = false
  dp : d.depth ≤ 0
  ls : d.leavesShort 13 = true
  wt : d.weight ≤ k
theorem lf_num {n : Nat} (hn : n < 10000) : Lf (.int (n : Nat)) 14 where
  sh := decide_eq_true (log_ok hn)
  nd := rfl
  dp := Nat.le_refl _
  ls := by
    simp only [PyData.leavesShort, decide_eq_true_eq]
    exact Nat.le_trans (nS_len hn).2 (by decide)
  wt := by
    show (if (n : Int) == 0 then 0 else n.log2 + 1) ≤ 14
    split
    · decide
    · rename_i h0
      have h0 : n ≠ 0 := fun e => h0 (by rw [e]; rfl)
      have := (Nat.log2_lt h0 (k := 14)).mpr (by omega)
      omega
theorem lf_str {z : Str} (h : ∀ c ∈ z.cps.toList, c < 128) : Lf (.str z) (z.length + 14) where
  sh := rfl
  nd := rfl
  dp := Nat.le_refl _
  ls := by
    show (z.cps.toList.all fun c => decide (c < 16 ^ 8)) = true
    rw [List.all_eq_true]
    exact fun c hc => decide_eq_true (Nat.lt_of_lt_of_le (h c hc) (by decide))
  wt := by show z.cps.size ≤ z.cps.size + 14; omega
theorem isW_low {z : Str} (h : isW 6 z = true) : ∀ c ∈ z.cps.toList, c < 128 := fun c hc => by
  unfold isW at h
  have := List.all_eq_true.mp h c hc
  rw [ok6] at this
  obtain ⟨x, hx⟩ := Option.isSome_iff_exists.mp this
  rw [← ltr_some hx]
  exact cp_lt x
theorem head_low {w0 : Str} {f : List Kd} (h : formOf w0 = some f) : ∀ c ∈ w0.cps.toList, c < 128 := by
  unfold formOf at h
  split at h
  · rename_i e; rw [e, c_out]; decide
  · split at h
    · rename_i e; rw [e, c_in]; decide
    · split at h
      · rename_i e; rw [e, c_ring]; decide
      · cases h
theorem kd_lf {k : Kd} {z : Str} (h : standB k z = true) : Lf (dV (kdV k z)) (z.length + 14) := by
  cases k with
  | num =>
    have h : figB z = true := h
    have q := h
    unfold figB at q
    rw [Bool.and_eq_true, Bool.and_eq_true, Bool.and_eq_true, decide_eq_true_iff, decide_eq_true_iff] at q
    have hv := val_small q.1.2 q.1.1.2
    have hn : digitsVal z.cps.toList < 10000 := by unfold valS at hv; omega
    have l := lf_num hn
    exact ⟨l.sh, l.nd, l.dp, l.ls, Nat.le_trans l.wt (by omega)⟩
  | ltr =>
    have h : isLet z = true := h
    rw [let_one, Bool.and_eq_true] at h
    exact lf_str (isW_low h.1)
  | trn =>
    have h : turnB z = true := h
    rw [turn_any, Bool.and_eq_true] at h
    exact lf_str (isW_low h.1)
inductive Lfs : List V → List Str → Prop
  | nil : Lfs [] []
  | cons {v : V} {z : Str} {vs : List V} {zs : List Str} : Lf (dV v) (z.length + 14) → Lfs vs zs → Lfs (v :: vs) (z :: zs)
theorem lfs_zip : ∀ (f : List Kd) (r : List Str) (n : Nat), wr f r n = none → Lfs (List.zipWith kdV f r) r
  | [], [], _, _ => .nil
  | [], _ :: _, _, h => by cases h
  | _ :: _, [], _, h => by cases h
  | k :: f, w :: r, n, h => by
    unfold wr at h
    split at h
    · rename_i hs
      exact .cons (kd_lf hs) (lfs_zip f r (n + 1) h)
    · cases h
theorem lfs_step {ws : List Str} (h : wrongOf ws = none) : Lfs (stepV ws) ws ∧ ws.length ≤ 4 := by
  cases ws with
  | nil => cases h
  | cons w0 r =>
    cases hf : formOf w0 with
    | none => rw [wrong_none hf] at h; cases h
    | some f =>
      rw [wrong_some hf] at h
      rw [stepV_some hf]
      have fl := form_lenG hf
      have := (wr_ok _ _ _ h).1
      exact ⟨.cons (lf_str (head_low hf)) (lfs_zip f r 1 h), by rw [List.length_cons]; omega⟩
noncomputable def lenS (ws : List Str) : Nat := (ws.map (·.length)).sum
theorem Lfs.all {vs : List V} {zs : List Str} (h : Lfs vs zs) : (∀ d ∈ vs.map dV, d.showable = true ∧ d.hasDict = false ∧ d.depth ≤ 0 ∧ d.leavesShort 13 = true) ∧ PyData.weightAll (vs.map dV) ≤ lenS zs + 15 * zs.length := by
  induction h with
  | nil => exact ⟨fun d hd => absurd hd (List.not_mem_nil), Nat.zero_le _⟩
  | @cons v z vs zs l r ih =>
    refine ⟨fun d hd => ?_, ?_⟩
    · rcases List.mem_cons.mp hd with rfl | hd
      · exact ⟨l.sh, l.nd, l.dp, l.ls⟩
      · exact ih.1 d hd
    · have h1 := l.wt
      have h2 := ih.2
      show (dV v).weight + 1 + PyData.weightAll (vs.map dV) ≤ lenS (z :: zs) + 15 * (zs.length + 1)
      unfold lenS at h2 ⊢
      rw [List.map_cons, List.sum_cons]
      omega
theorem st_sh {ws : List Str} (h : wrongOf ws = none) : ((stD ws).showable = true ∧ (stD ws).hasDict = false ∧ (stD ws).depth ≤ 1 ∧ (stD ws).leavesShort 13 = true) ∧ (stD ws).weight ≤ lenS ws + 60 := by
  obtain ⟨l, hn⟩ := lfs_step h
  obtain ⟨h1, h2, h3, h4⟩ := all_leaf (n := 0) _ l.all.1
  have hw := l.all.2
  refine ⟨⟨h1, h2, ?_, h4⟩, ?_⟩
  · show PyData.depthAll _ + 1 ≤ 1
    omega
  · show (PyData.tuple ((stepV ws).map dV)).weight ≤ _
    simp only [PyData.weight]
    omega
theorem bad_none : ∀ {ps : List (List Str)} {k : Nat}, firstBad ps k = none → ∀ ws ∈ ps, wrongOf ws = none
  | [], _, _, ws, hm => absurd hm (List.not_mem_nil)
  | q :: r, k, h, ws, hm => by
    have h : (match wrongOf q with | some p => some (k, p) | none => firstBad r (k + 1)) = none := h
    cases hq : wrongOf q with
    | some p => rw [hq] at h; cases h
    | none =>
      rw [hq] at h
      rcases List.mem_cons.mp hm with rfl | hm
      · exact hq
      · exact bad_none h ws hm
theorem wr_small : ∀ (f : List Kd) (r : List Str) (n m : Nat), wr f r n = some m → m ≤ n + f.length
  | [], [], _, _, h => by cases h
  | [], _ :: _, n, m, h => by cases h; exact Nat.le_refl _
  | _ :: _, [], n, m, h => by cases h; exact Nat.le_add_right _ _
  | k :: f, w :: r, n, m, h => by
    unfold wr at h
    split at h
    · have := wr_small f r (n + 1) m h
      rw [List.length_cons]
      omega
    · cases h
      exact Nat.le_add_right _ _
theorem wrong_small {ws : List Str} {m : Nat} (h : wrongOf ws = some m) : m ≤ 4 := by
  cases ws with
  | nil => cases h; decide
  | cons w0 r =>
    cases hf : formOf w0 with
    | none => rw [wrong_none hf] at h; cases h; decide
    | some f =>
      rw [wrong_some hf] at h
      have := wr_small _ _ _ _ h
      have := form_lenG hf
      omega
theorem bad_small : ∀ {ps : List (List Str)} {k i n : Nat}, firstBad ps k = some (i, n) → i < k + ps.length ∧ n ≤ 4
  | [], _, _, _, h => by cases h
  | q :: r, k, i, n, h => by
    have h : (match wrongOf q with | some p => some (k, p) | none => firstBad r (k + 1)) = some (i, n) := h
    cases hq : wrongOf q with
    | some p =>
      rw [hq] at h
      cases h
      exact ⟨by rw [List.length_cons]; omega, wrong_small hq⟩
    | none =>
      rw [hq] at h
      have := bad_small h
      rw [List.length_cons]
      exact ⟨by omega, this.2⟩
theorem parts_weight : ∀ (ps : List (List Str)), (∀ ws ∈ ps, wrongOf ws = none) → PyData.weightAll (ps.map stD) ≤ (ps.map lenS).sum + 61 * ps.length
  | [], _ => Nat.zero_le _
  | ws :: r, h => by
    have ih := parts_weight r fun x hx => h x (List.mem_cons_of_mem _ hx)
    have h1 := (st_sh (h ws List.mem_cons_self)).2
    show (stD ws).weight + 1 + PyData.weightAll (r.map stD) ≤ _
    rw [List.map_cons, List.sum_cons, List.length_cons]
    omega
theorem sum_le2 {α : Type} (f g : α → Nat) : ∀ (l : List α), (∀ x ∈ l, f x ≤ g x) → (l.map f).sum ≤ (l.map g).sum
  | [], _ => Nat.le_refl _
  | x :: r, h => by
    have ih := sum_le2 f g r fun y hy => h y (List.mem_cons_of_mem _ hy)
    have := h x List.mem_cons_self
    rw [List.map_cons, List.map_cons, List.sum_cons, List.sum_cons]
    omega
theorem one_sp : 1 ≤ (" " : Str).length := by decide +kernel
theorem one_semi : 1 ≤ ("; " : Str).length := by decide +kernel
theorem parts_len (z : Str) : ((partsOf z).map lenS).sum ≤ 2 * z.length + 1 := by
  unfold partsOf
  rw [List.map_map]
  have q := split_weight z "; " one_semi
  have s := sum_le2 (lenS ∘ fun p => Txt.split p " ") (fun p => p.length + 1) (Txt.split z "; ") fun p hp => by
    have := split_weight p " " one_sp
    show ((Txt.split p " ").map (·.length)).sum ≤ _
    omega
  have e : ((Txt.split z "; ").map fun p => p.length + 1).sum = ((Txt.split z "; ").map (·.length)).sum + (Txt.split z "; ").length := by
    generalize Txt.split z "; " = l
    induction l with
    | nil => rfl
    | cons a r ih => rw [List.map_cons, List.map_cons, List.sum_cons, List.sum_cons, List.length_cons, ih]; omega
  omega
theorem sh_due {z : Str} (h : z.length ≤ 5000) : Sh (dueD z) := by
  by_cases hd : z = "-"
  · subst hd
    rw [due_dash]
    exact sh_steps (ss := []) (fun s h => nomatch h) (by decide)
  · have hn := (tx_of h).n
    have hp : (partsOf z).length = (Txt.split z "; ").length := by unfold partsOf; rw [List.length_map]
    cases hb : firstBad (partsOf z) 0 with
    | none =>
      rw [due_ok hd hb]
      have al := bad_none hb
      obtain ⟨h1, h2, h3, h4⟩ := all_leaf (n := 1) ((partsOf z).map stD) fun d hd => by
        obtain ⟨ws, hm, rfl⟩ := List.mem_map.mp hd
        exact (st_sh (al ws hm)).1
      have hw := parts_weight _ al
      have hl := parts_len z
      refine ⟨h1, h2, ?_, PyData.shown_fits (B := 13) (by decide) (by decide) h4 ?_⟩
      · show PyData.depthAll _ + 1 ≤ 10
        omega
      · simp only [PyData.weight]
        omega
    | some p =>
      obtain ⟨i, n⟩ := p
      rw [due_bad hd hb]
      have hs := bad_small hb
      have l1 := lf_str (z := "no") (by decide +kernel)
      have l2 := lf_num (n := i) (by omega)
      have l3 := lf_num (n := n) (by omega)
      obtain ⟨h1, h2, h3, h4⟩ := all_leaf (n := 0) [PyData.str "no", .int (i : Nat), .int (n : Nat)] fun d hd => by
        rcases List.mem_cons.mp hd with rfl | hd
        · exact ⟨l1.sh, l1.nd, l1.dp, l1.ls⟩
        · rcases List.mem_cons.mp hd with rfl | hd
          · exact ⟨l2.sh, l2.nd, l2.dp, l2.ls⟩
          · rcases List.mem_cons.mp hd with rfl | hd
            · exact ⟨l3.sh, l3.nd, l3.dp, l3.ls⟩
            · exact absurd hd (List.not_mem_nil)
      refine ⟨h1, h2, ?_, PyData.shown_fits (B := 13) (by decide) (by decide) h4 ?_⟩
      · show PyData.depthAll _ + 1 ≤ 10
        omega
      · have e : (PyData.str "no").weight ≤ 20 := by decide +kernel
        have := l2.wt
        have := l3.wt
        show (PyData.str "no").weight + 1 + ((PyData.int (i : Nat)).weight + 1 + ((PyData.int (n : Nat)).weight + 1 + 0)) ≤ 2 ^ 20
        omega
noncomputable def spTold : Sp := fun vs H Q _ => ∃ z : Str, vs = [.str z] ∧ Tx z ∧ ∀ a H', Dt H' (.ref a) (dueD z) → Same H H' → Q (.ref a) H'
noncomputable def WT (ws : List Str) : Nat := (ws.map (·.length)).sum + ws.length
theorem WT_cons (z : Str) (ws : List Str) : WT (z :: ws) = z.length + 1 + WT ws := by
  unfold WT
  rw [List.map_cons, List.sum_cons, List.length_cons]
  omega
theorem WT_app (a b : List Str) : WT (a ++ b) = WT a + WT b := by
  induction a with
  | nil => unfold WT; simp
  | cons z r ih => rw [List.cons_append, WT_cons, WT_cons, ih]; omega
theorem WT_take (a : List Str) (n : Nat) : WT (a.take n) ≤ WT a := by
  have := WT_app (a.take n) (a.drop n)
  rw [List.take_append_drop] at this
  omega
theorem WT_drop (a : List Str) (n : Nat) : WT (a.drop n) ≤ WT a := by
  have := WT_app (a.take n) (a.drop n)
  rw [List.take_append_drop] at this
  omega
noncomputable def Cv (n : Nat) (xs : List V) : Prop := ∃ ws : List Str, xs = ws.map V.str ∧ WT ws ≤ n
theorem Cv.cut {n : Nat} {xs : List V} (h : Cv n xs) (lo hi : Option Int) : Cv n (cutV xs lo hi) := by
  obtain ⟨ws, rfl, hw⟩ := h
  refine ⟨(ws.drop (HT.sIx (ws.map V.str).length 0 lo)).take (HT.sIx (ws.map V.str).length (ws.map V.str).length hi - HT.sIx (ws.map V.str).length 0 lo), ?_, ?_⟩
  · unfold cutV
    rw [List.map_take, List.map_drop]
  · exact Nat.le_trans (WT_take _ _) (Nat.le_trans (WT_drop _ _) hw)
theorem Cv.app {n m : Nat} {xs ys : List V} (h : Cv n xs) (g : Cv m ys) : Cv (n + m) (xs ++ ys) := by
  obtain ⟨ws, rfl, hw⟩ := h
  obtain ⟨vs, rfl, hv⟩ := g
  exact ⟨ws ++ vs, by rw [List.map_append], by rw [WT_app]; omega⟩
theorem Cv.one {k : Nat} {z : Str} (h : z.length ≤ k) : Cv (k + 1) [.str z] := ⟨[z], rfl, by rw [WT_cons]; show z.length + 1 + 0 ≤ _; omega⟩
theorem Cv.len {n : Nat} {xs : List V} (h : Cv n xs) : xs.length ≤ n := by
  obtain ⟨ws, rfl, hw⟩ := h
  rw [List.length_map]
  unfold WT at hw
  omega
theorem jn_len (yl : List Nat) : ∀ ps : List (List Nat), (jn yl ps).length ≤ (ps.map List.length).sum + ps.length * yl.length
  | [] => Nat.zero_le _
  | [p] => by show p.length ≤ (p.length + 0) + _; omega
  | p :: q :: r => by
    have ih := jn_len yl (q :: r)
    show (p ++ yl ++ jn yl (q :: r)).length ≤ _
    rw [List.length_append, List.length_append, List.map_cons, List.sum_cons, List.length_cons (as := q :: r), Nat.succ_mul]
    omega
theorem join_le (ws : List Str) : (Txt.join " " ws).length ≤ WT ws := by
  have e : Txt.join " " ws = Str.join " " ws := StrLaws.glued_eq_join " " _
  rw [e]
  have q := join_cps " " ws
  have l := jn_len (" " : Str).cps.toList (ws.map (·.cps.toList))
  rw [← q, Array.length_toList, List.map_map, List.length_map] at l
  have e2 : (" " : Str).cps.toList.length = 1 := by decide +kernel
  have e3 : ws.map (List.length ∘ fun z : Str => z.cps.toList) = ws.map (·.length) := List.map_congr_left fun z _ => Array.length_toList ..
  rw [e2, e3, Nat.mul_one] at l
  exact l
theorem menu_at {ts : List Str} {q : Int} (h0 : 0 ≤ q) (h1 : q < ts.length) : ∃ z, atI (ts.map V.str) q = some (.str z) ∧ z ∈ ts := by
  obtain ⟨n, rfl⟩ := Int.eq_ofNat_of_zero_le h0
  have hn : n < ts.length := by omega
  refine ⟨ts[n], atI_get ?_, List.getElem_mem hn⟩
  rw [List.getElem?_map, List.getElem?_eq_getElem hn]
  rfl
noncomputable def menuG : List Str := ["out 0", "out 12", "in 3 a", "in 0 F", "ring 0 abAB 3", "ring 7 a 0", "ring 100 ffeE 9999", "out 9999"]
noncomputable def menuS : List Str := ["", "-", "out", "in", "ring", "out;", "a", "a;", "g", "aG", "01", "00", "10000", "+1", "1_0", "0;", "1 "]
theorem menuG_len : ∀ z ∈ menuG, z.length ≤ 18 := by decide +kernel
theorem menuS_len : ∀ z ∈ menuS, z.length ≤ 5 := by decide +kernel
noncomputable def spGood : Sp := fun vs H Q _ => ∃ d : Addr, vs = [.ref d] ∧ Fd H d ∧ ∀ (z : Str) H', z.length ≤ 100 → Fd H' d → SameB d H H' → Q (.str z) H'
noncomputable def spSpoilt : Sp := fun vs H Q _ => ∃ (d : Addr) (z : Str), vs = [.ref d, .str z] ∧ Fd H d ∧ z.length ≤ 1000 ∧ ∀ (y : Str) H', y.length ≤ 3 * z.length + 20 → Fd H' d → SameB d H H' → Q (.str y) H'
theorem spl_wt (z : Str) : WT (Txt.split z " ") ≤ z.length + 1 := split_weight z " " one_sp
theorem form_no {K : PySem.W.Frag} {w : World} {a : Addr} {es : Array DictEntry} {n : Nat} (hl : K.lookup a = some ⟨.type "dict", none, .dict es n, #[]⟩) (hk : PySem.W.KeysLit w.params es.toList) (hn : es.toList.map keyT = (["out", "in", "ring"] : List Str)) {z : Str} (h : formOf z = none) : PySem.W.nsIn K a z = some none := by
  obtain ⟨r, h1, h2⟩ := ns_keys hl hk hn z
  have ha : (["out", "in", "ring"] : List Str).any (fun y => y == z) = false := by
    rw [List.any_eq_false]
    intro y hy e
    have e : y = z := beq_iff_eq.mp e
    subst e
    simp only [List.mem_cons, List.not_mem_nil, or_false] at hy
    rcases hy with rfl | rfl | rfl
    · exact absurd h (by decide +kernel)
    · exact absurd h (by decide +kernel)
    · exact absurd h (by decide +kernel)
  rw [ha] at h2
  cases r with
  | none => exact h1
  | some v => cases h2
theorem form_cases {z : Str} {f : List Kd} (h : formOf z = some f) : (z = "out" ∧ f = [.num]) ∨ (z = "in" ∧ f = [.num, .ltr]) ∨ (z = "ring" ∧ f = [.num, .trn, .num]) := by
  unfold formOf at h
  split at h
  · rename_i e; cases h; exact .inl ⟨e, rfl⟩
  · split at h
    · rename_i e; cases h; exact .inr (.inl ⟨e, rfl⟩)
    · split at h
      · rename_i e; cases h; exact .inr (.inr ⟨e, rfl⟩)
      · cases h
theorem kit_self {K : PySem.W.Frag} {C : Addr} : PySem.W.kitOne K (.ref C) (.ref C) = some true := by unfold PySem.W.kitOne; rw [if_pos (by simp)]
theorem kit_ref2 {K : PySem.W.Frag} {C R : Addr} {bm : List Value} {dd' : Option Addr} {cd' : ClassData} {sl' : Array (Option Value)} (xC : XCl K C bm) (hl' : K.lookup R = some ⟨.type "type", dd', .cls cd', sl'⟩) : PySem.W.kitOne K (.ref C) (.ref R) = some ((Value.ref C :: bm).contains (.ref R)) := by
  obtain ⟨dd, cd, k0, k1, k2, k3, k5, hl, hm, hd, hh⟩ := xC.obj
  unfold PySem.W.kitOne
  by_cases q : (Value.ref C == Value.ref R) = true
  · rw [if_pos q, beq_iff_eq.mp q]; simp
  · rw [if_neg q]
    unfold PySem.W.kitCls
    have h1 : (PySem.W.clsIn K R).isSome = true := by unfold PySem.W.clsIn; rw [hl']; rfl
    have h2 : PySem.W.typeIn K (.ref R) = some (.type "type") := by
      show (K.lookup R).map (·.cls) = _
      rw [hl']; rfl
    simp only [h1, h2, beq_self_eq_true, Bool.and_self, if_true]
    unfold PySem.W.subIn PySem.W.mroIn PySem.W.clsIn
    simp only [hl, Option.bind_some, hm, List.isEmpty_cons, Bool.false_eq_true, if_false]
noncomputable def Aside (K : PySem.W.Frag) (C : Addr) (bm : List Value) (R : Addr) : Prop := (∃ dd cd sl, K.lookup R = some ⟨.type "type", dd, .cls cd, sl⟩) ∧ (Value.ref C :: bm).contains (.ref R) = false
theorem kit_aside {K : PySem.W.Frag} {C : Addr} {bm : List Value} (xC : XCl K C bm) : ∀ {Rs : List Addr}, (∀ R ∈ Rs, Aside K C bm R) → PySem.W.kitAny K (.ref C) (Rs.map .ref) = some false
  | [], _ => rfl
  | R :: Rs, h => by
    obtain ⟨⟨dd, cd, sl, hl⟩, hc⟩ := h R List.mem_cons_self
    have ih := kit_aside xC (Rs := Rs) fun R' h' => h R' (List.mem_cons_of_mem _ h')
    rw [List.map_cons]
    unfold PySem.W.kitAny
    rw [kit_ref2 xC hl, hc]
    simpa using ih
end Kx
set_option Elab.async false
set_option linter.all false
set_option maxRecDepth 100000
set_option maxHeartbeats 0
namespace Kx
open PySem PySem.Spec PyProof.Rows L2 Wd
noncomputable def top (i : Nat) : Stmt := PySem.Challenge.pw_ringwords_k12_texts_that_write_no_steps.main.body.getD i (.Pass ⟨0, 0, 0, 0⟩)
theorem len1 {α : Type} {us : List α} (h : us.length = 1) : ∃ a0, us = [a0] := by
  cases us with
  | nil => cases h
  | cons a0 us =>
    cases us with
    | nil => exact ⟨a0, rfl⟩
    | cons b us => cases h
theorem len2 {α : Type} {us : List α} (h : us.length = 2) : ∃ a0 a1, us = [a0, a1] := by
  cases us with
  | nil => cases h
  | cons a0 us =>
    cases us with
    | nil => cases h
    | cons a1 us =>
      cases us with
      | nil => exact ⟨a0, a1, rfl⟩
      | cons b us => cases h
end Kx
set_option Elab.async false
set_option linter.all false
set_option maxRecDepth 100000
set_option maxHeartbeats 0
namespace Kx
open PySem PySem.Spec PyProof.Rows L2 Wd
section
variable {P : Program} {w : World} {K : PySem.W.Frag} {mg : Str → Option Value} {base : Heap} {aB : Addr}
noncomputable abbrev s_draw : Stmt := top 29
theorem sc_draw : FnScope ["_law_feed_here", "_law_many", "_law_cell", "_law_mixed", "_law_found"] ["_law_feed_here", "_law_many"] (defScope s_draw) := ⟨rfl, rfl, rfl, by decide +kernel, rfl, by decide +kernel, by decide +kernel⟩
theorem c_draw (D : Df K mg "_law_draw" s_draw) (T : Bt K w mg aB) : Fnc P w K mg base "_law_draw" ["_law_feed_here", "_law_many"] 1 spDraw := by
  have sc := sc_draw
  refine D.ok sc (fun _ _ _ _ _ _ us hl => by obtain ⟨_, _, rfl⟩ := len2 hl; rfl) (fun vs H Q E h => ?_) (fun f cdv A outer s H vs Q E hr h => ?_)
  · obtain ⟨d, m, rfl, _⟩ := h
    rfl
  · obtain ⟨d, m, rfl, F, m0, m1, k⟩ := h
    have hu := hu_of hr
    refine ⟨_, (@pss_cons _ _ _ _ _ (@ps_dput _ _ _ _ _ _ _ _ _ hu (pv 0) pe_str (@pe_op _ _ _ _ _ _ _ _ op_add (@pe_dget _ _ _ _ _ _ hu (pv 0) pe_str (fun _ _ => rfl)) pe_int) rfl) (@pss_cons _ _ _ _ _ (@ps_if _ _ _ _ _ _ _ _ (@pt_cmpR _ _ _ _ _ _ _ _ op_eq (@pe_dget _ _ _ _ _ _ hu (pv 0) pe_str (fun _ _ => rfl)) pe_int (nomark _)) (@pss_cons _ _ _ _ _ (@ps_set _ _ (2) _ _ _ _ sc.nd rfl (Or.inl rfl) (@pe_ix _ _ _ _ _ _ _ ix_list (@pe_dget _ _ _ _ _ _ hu (pv 0) pe_str (fun _ _ => rfl)) (@pe_op _ _ _ _ _ _ _ _ op_mod (@pe_dget _ _ _ _ _ _ hu (pv 0) pe_str (fun _ _ => rfl)) (@pe_callB _ _ _ _ _ _ _ _ _ call_len_seq (by rfl) T.len PySem.boot_len (@pa_cons _ _ _ _ _ (@pe_dget _ _ _ _ _ _ hu (pv 0) pe_str (fun _ _ => rfl)) pa_nil (by rfl)) (by decide) (by decide) (by rfl) (by rfl))) (fun _ _ => rfl)) (by rfl) (by first | exact .inl rfl | exact .inr rfl | assumption)) (@pss_cons _ _ _ _ _ (@ps_dput _ _ _ _ _ _ _ _ _ hu (pv 0) pe_str (@pe_op _ _ _ _ _ _ _ _ op_add (@pe_dget _ _ _ _ _ _ hu (pv 0) pe_str (fun _ _ => rfl)) pe_int) rfl) (@pss_cons _ _ _ _ _ (@ps_if _ _ _ _ _ _ _ _ (@pt_cmpR _ _ _ _ _ _ _ _ op_lt (pv 2) (@pe_op _ _ _ _ _ _ _ _ op_pow pe_int pe_int) (nomark _)) (@pss_cons _ _ _ _ _ (@ps_set _ _ (3) _ _ _ _ sc.nd rfl (Or.inl rfl) (@pe_op _ _ _ _ _ _ _ _ op_mod (@pe_op _ _ _ _ _ _ _ _ op_mul (@pe_op _ _ _ _ _ _ _ _ op_add (@pe_op _ _ _ _ _ _ _ _ op_mod (pv 2) pe_int) (@pe_op _ _ _ _ _ _ _ _ op_mul pe_int (@pe_dget _ _ _ _ _ _ hu (pv 0) pe_str (fun _ _ => rfl)))) pe_int) pe_int) (by rfl) (by first | exact .inl rfl | exact .inr rfl | assumption)) (@pss_cons _ _ _ _ _ (@ps_set _ _ (3) _ _ _ _ sc.nd rfl (Or.inl rfl) (@pe_op _ _ _ _ _ _ _ _ op_mod (@pe_op _ _ _ _ _ _ _ _ op_mul (@pe_op _ _ _ _ _ _ _ _ op_add (@pe_op _ _ _ _ _ _ _ _ op_fdiv (pv 3) pe_int) (@pe_op _ _ _ _ _ _ _ _ op_mul pe_int (@pe_dget _ _ _ _ _ _ hu (pv 0) pe_str (fun _ _ => rfl)))) pe_int) pe_int) (by rfl) (by first | exact .inl rfl | exact .inr rfl | assumption)) (@pss_one _ _ _ (@ps_ret _ _ _ _ (@pe_op _ _ _ _ _ _ _ _ op_mod (@pe_op _ _ _ _ _ _ _ _ op_fdiv (pv 3) pe_int) (pv 1)))))) pss_nil) (@pss_one _ _ _ (@ps_dput _ _ _ _ _ _ _ _ _ hu (pv 0) pe_str (pv 2) rfl))))) pss_nil) (@pss_cons _ _ _ _ _ (@ps_set _ _ (4) _ _ _ _ sc.nd rfl (Or.inl rfl) (@pe_op _ _ _ _ _ _ _ _ op_mod (@pe_dget _ _ _ _ _ _ hu (pv 0) pe_str (fun _ _ => rfl)) (pv 1)) (by rfl) (by first | exact .inl rfl | exact .inr rfl | assumption)) (@pss_cons _ _ _ _ _ (@ps_dput _ _ _ _ _ _ _ _ _ hu (pv 0) pe_str (@pe_op _ _ _ _ _ _ _ _ op_fdiv (@pe_dget _ _ _ _ _ _ hu (pv 0) pe_str (fun _ _ => rfl)) (pv 1)) rfl) (@pss_one _ _ _ (@ps_ret _ _ _ _ (pv 4))))))), ?_⟩
    obtain ⟨c, i, l, t, ns, hd, hc, hne, h64⟩ := F.ex
    have dc : c ≠ d := ne_of hc hd (by intro z; cases z)
    have fin : ∀ (r i' l' t' : Int), 0 ≤ r → r < m → Q (.int r) (upd H d (.dK (fkv c i' l' t'))) := fun r i' l' t' h0 h1 =>
      k r _ h0 h1 ⟨c, i', l', t', ns, upd_same, by rw [upd_ne dc]; exact hc, hne, h64⟩ SameB.upd
    have c1 : ∀ o, (upd H d o) c = some (.lst (ns.map V.int)) := fun o => by rw [upd_ne dc]; exact hc
    have hl0 : (0 : Int) < ((ns.map V.int).length : Int) := by
      rw [List.length_map]
      have := List.length_pos_iff.mpr hne
      omega
    refine ⟨_, rfl, d, _, rfl, dg hd (g_turn c i l t), _, _, rfl, rfl, _, rfl, d, _, rfl, dp hd (fkv_len c i l t) (p_turn c i l t _), ?_⟩
    refine ⟨_, rfl, d, _, rfl, dg upd_same (g_left c i l _), rfl, _, rfl, ?_⟩
    refine ite2 (fun _ => ?_) (fun _ => ?_)
    rotate_left
    · refine ⟨_, rfl, d, _, rfl, dg upd_same (g_left c _ _ _), _, rfl, _, _, rfl, rfl, m0, ?_⟩
      refine ⟨_, rfl, d, _, rfl, dg upd_same (g_left c _ _ _), _, rfl, _, _, rfl, rfl, ⟨m0, by omega⟩, _, rfl, d, _, rfl, dp upd_same (fkv_len c _ _ _) (p_left c _ _ _ _), ?_⟩
      refine ⟨_, rfl, ?_⟩
      rw [upd_upd]
      exact fin _ _ _ _ (Int.emod_nonneg _ (by omega)) (Int.emod_lt_of_pos _ m0)
    obtain ⟨n, hn⟩ := cell_at hne i
    refine ⟨_, rfl, d, _, rfl, dg upd_same (g_cells c i l _), _, rfl, d, _, rfl, dg upd_same (g_at c i l _), _, rfl, d, _, rfl, dg upd_same (g_cells c i l _), c, _, rfl, .inl (SqL.of (c1 _)), _, _, rfl, rfl, hl0, c, _, _, _, rfl, rfl, SqL.of (c1 _), hn, ?_⟩
    refine ⟨_, rfl, d, _, rfl, dg upd_same (g_at c i l _), _, _, rfl, rfl, _, rfl, d, _, rfl, dp upd_same (fkv_len c i l _) (p_at c i l _ _), ?_⟩
    rw [upd_upd]
    refine ⟨_, rfl, _, _, rfl, rfl, ⟨by decide, by decide, by decide⟩, _, _, rfl, rfl, _, rfl, ?_⟩
    refine ite2 (fun _ => ?_) (fun _ => ?_)
    · refine ⟨_, rfl, _, _, rfl, rfl, (by show (0 : Int) < 2147483629; decide), _, rfl, d, _, rfl, dg upd_same (g_turn c _ l _), _, _, rfl, rfl, .inl ⟨by decide, by decide⟩, _, _, rfl, rfl, _, _, rfl, rfl, .inr ⟨by decide, by decide⟩, _, _, rfl, rfl, (by show (0 : Int) < 2147483647; decide), ?_⟩
      refine ⟨_, rfl, _, _, rfl, rfl, ⟨by decide, by decide⟩, _, rfl, d, _, rfl, dg upd_same (g_turn c _ l _), _, _, rfl, rfl, .inl ⟨by decide, by decide⟩, _, _, rfl, rfl, _, _, rfl, rfl, .inr ⟨by decide, by decide⟩, _, _, rfl, rfl, (by show (0 : Int) < 2147483587; decide), ?_⟩
      refine ⟨_, rfl, _, _, rfl, rfl, ⟨by decide, by decide⟩, _, rfl, _, _, rfl, rfl, m0, ?_⟩
      exact fin _ _ _ _ (Int.emod_nonneg _ (by omega)) (Int.emod_lt_of_pos _ m0)
    · refine ⟨_, rfl, _, rfl, d, _, rfl, dp upd_same (fkv_len c _ l _) (p_left c _ l _ _), ?_⟩
      rw [upd_upd]
      refine ⟨_, rfl, d, _, rfl, dg upd_same (g_left c _ _ _), _, rfl, _, _, rfl, rfl, m0, ?_⟩
      refine ⟨_, rfl, d, _, rfl, dg upd_same (g_left c _ _ _), _, rfl, _, _, rfl, rfl, ⟨m0, by omega⟩, _, rfl, d, _, rfl, dp upd_same (fkv_len c _ _ _) (p_left c _ _ _ _), ?_⟩
      refine ⟨_, rfl, ?_⟩
      rw [upd_upd]
      exact fin _ _ _ _ (Int.emod_nonneg _ (by omega)) (Int.emod_lt_of_pos _ m0)
end
section
variable {P : Program} {w : World} {K : PySem.W.Frag} {mg : Str → Option Value} {base : Heap} {aB : Addr}
noncomputable abbrev s_feed : Stmt := top 28
theorem sc_feed : FnScope ["_law_script"] ["_law_script"] (defScope s_feed) := ⟨rfl, rfl, rfl, by decide +kernel, rfl, by decide +kernel, by decide +kernel⟩
theorem c_feed (D : Df K mg "_law_feed" s_feed) (T : Bt K w mg aB) : Fnc P w K mg base "_law_feed" ["_law_script"] 1 (spFeed K) := by
  have sc := sc_feed
  refine D.ok sc (fun _ _ _ _ _ _ us hl => by obtain ⟨_, rfl⟩ := len1 hl; rfl) (fun vs H Q E h => ?_) (fun f cdv A outer s H vs Q E hr h => ?_)
  · obtain ⟨a, ns, rfl, _⟩ := h
    rfl
  · obtain ⟨a, ns, rfl, hS, hlen, k⟩ := h
    have hu := hu_of hr
    refine ⟨_, (@pss_one _ _ _ (@ps_ret _ _ _ _ (@pe_disp _ _ _ _ _ (@pps_cons _ _ _ _ _ _ _ _ _ pe_str (@pe_op _ _ _ _ _ _ _ _ op_cat (@pe_callTy _ _ _ _ _ _ _ _ _ call_list_of (by rfl) T.list b_list (@pa_cons _ _ _ _ _ (@pe_slice _ _ _ _ _ _ _ _ _ _ sl_list (pv 0) po_none (@po_some _ _ _ pe_int)) pa_nil (by rfl)) (by decide) (by decide) (by rfl) (by rfl)) (@pe_op _ _ _ _ _ _ _ _ op_rep (@pe_lst _ _ _ _ (@pa_cons _ _ _ _ _ pe_int pa_nil (by rfl))) (@pe_callTy _ _ _ _ _ _ _ _ _ call_int1 (by rfl) T.int b_int (@pa_cons _ _ _ _ _ (@pe_cmpR _ _ _ _ _ _ _ _ op_eq (@pe_callB _ _ _ _ _ _ _ _ _ call_len_seq (by rfl) T.len PySem.boot_len (@pa_cons _ _ _ _ _ (pv 0) pa_nil (by rfl)) (by decide) (by decide) (by rfl) (by rfl)) pe_int (nomark _)) pa_nil (by rfl)) (by decide) (by decide) (by rfl) (by rfl)))) (@pps_cons _ _ _ _ _ _ _ _ _ pe_str pe_int (@pps_cons _ _ _ _ _ _ _ _ _ pe_str pe_int (@pps_cons _ _ _ _ _ _ _ _ _ pe_str pe_int pps_nil)))) rfl rfl (by simp) (by decide)))), ?_⟩
    intro p hp
    have s1 : Same H (upd H p (.dK [])) := Same.new hp
    have p1 : (upd H p (.dK [])) p = some (.dK []) := upd_same
    generalize upd H p (.dK []) = H1 at s1 p1
    refine ⟨_, rfl, _, rfl, a, _, rfl, s1.seq hS, fun q1 hq1 => ?_⟩
    rw [cut63 hlen]
    have s2 : Same H1 (upd H1 q1 (.lst (ns.map V.int))) := Same.new hq1
    have l2 : (upd H1 q1 (.lst (ns.map V.int))) q1 = some (.lst (ns.map V.int)) := upd_same
    generalize upd H1 q1 (.lst (ns.map V.int)) = H2 at s2 l2 ⊢
    refine ⟨q1, _, rfl, .inl (SqL.of l2), fun q2 hq2 => ?_⟩
    have s3 : Same H2 (upd H2 q2 (.lst (ns.map V.int))) := Same.new hq2
    have l3 : (upd H2 q2 (.lst (ns.map V.int))) q2 = some (.lst (ns.map V.int)) := upd_same
    generalize upd H2 q2 (.lst (ns.map V.int)) = H3 at s3 l3 ⊢
    refine ⟨(by show 1 ≤ sizeLine; decide), fun q4 hq4 => ?_⟩
    have s4 : Same H3 (upd H3 q4 (.lst [V.int 0])) := Same.new hq4
    have l4 : (upd H3 q4 (.lst [V.int 0])) q4 = some (.lst [V.int 0]) := upd_same
    generalize upd H3 q4 (.lst [V.int 0]) = H4 at s4 l4 ⊢
    have s14 : Same H H4 := ((s1.trans s2).trans s3).trans s4
    refine ⟨_, rfl, a, _, rfl, .inl (s14.seq hS), rfl, .inr ⟨_, rfl, q4, _, _, rfl, rfl, l4, ?_, ?_, ?_, fun q5 hq5 => ?_⟩⟩
    · split <;> decide
    · split <;> decide
    · split <;> decide
    have s5 : Same H4 (upd H4 q5 (.lst (List.replicate ((if decide (V.int ((ns.map V.int).length : Int) = V.int 0) = true then 1 else 0 : Int)).toNat [V.int 0]).flatten)) := Same.new hq5
    have l5 : (upd H4 q5 (.lst (List.replicate ((if decide (V.int ((ns.map V.int).length : Int) = V.int 0) = true then 1 else 0 : Int)).toNat [V.int 0]).flatten)) q5 = _ := upd_same
    generalize upd H4 q5 (.lst (List.replicate ((if decide (V.int ((ns.map V.int).length : Int) = V.int 0) = true then 1 else 0 : Int)).toNat [V.int 0]).flatten) = H5 at s5 l5 ⊢
    refine ⟨q2, q5, _, _, rfl, rfl, s5 _ _ (s4 _ _ l3), l5, ?_, fun q6 hq6 => ?_⟩
    · have e : (List.replicate ((if decide (V.int ((ns.map V.int).length : Int) = V.int 0) = true then 1 else 0 : Int)).toNat [V.int 0]).flatten.length ≤ 1 := by split <;> decide
      have e2 : sizeLine = 16777216 := sizeLine_eq
      have e3 : (ns.map V.int).length = ns.length := List.length_map ..
      omega
    have el : ns.map V.int ++ (List.replicate ((if decide (V.int ((ns.map V.int).length : Int) = V.int 0) = true then 1 else 0 : Int)).toNat [V.int 0]).flatten = (if ns = [] then [0] else ns).map V.int := by
      cases ns with
      | nil => rfl
      | cons n r =>
        have en : ¬ (decide (V.int (((n :: r).map V.int).length : Int) = V.int 0) = true) := by
          rw [List.length_map, List.length_cons]
          simp only [V.int.injEq, decide_eq_true_eq]
          omega
        rw [if_neg en, if_neg (by simp)]
        simp
    rw [el]
    have s6 : Same H5 (upd H5 q6 (.lst ((if ns = [] then [0] else ns).map V.int))) := Same.new hq6
    have l6 : (upd H5 q6 (.lst ((if ns = [] then [0] else ns).map V.int))) q6 = _ := upd_same
    generalize upd H5 q6 (.lst ((if ns = [] then [0] else ns).map V.int)) = H6 at s6 l6 ⊢
    have p6 : H6 p = some (.dK []) := s6 _ _ (s5 _ _ (s4 _ _ (s3 _ _ (s2 _ _ p1))))
    have pq : q6 ≠ p := ne_of l6 p6 (by intro z; cases z)
    refine ⟨p6, fkv q6 0 0 0, rfl, (by show 4 ≤ 15; decide), ?_⟩
    rw [m_fkv]
    refine k p _ hp ⟨q6, 0, 0, 0, (if ns = [] then [0] else ns), upd_same, by rw [upd_ne pq]; exact l6, ?_, ?_⟩ fun b o e => ?_
    · split
      · simp
      · assumption
    · split
      · decide
      · omega
    · rw [upd_ne (ne_of_none e hp)]
      exact s6 _ _ (s5 _ _ (s14 _ _ e))
end
end Kx
set_option Elab.async false
set_option linter.all false
set_option maxRecDepth 100000
set_option maxHeartbeats 0
namespace Kx
open PySem PySem.Spec PyProof.Rows L2 Wd
section
variable {P : Program} {w : World} {K : PySem.W.Frag} {mg : Str → Option Value} {base : Heap} {aB : Addr}
noncomputable abbrev s_letter : Stmt := top 15
theorem sc_letter : FnScope ["thing"] ["thing"] (defScope s_letter) := ⟨rfl, rfl, rfl, by decide +kernel, rfl, by decide +kernel, by decide +kernel⟩
theorem c_letter (D : Df K mg "is_letter" s_letter) (T : Bt K w mg aB) (B : Bk K aB) : Fnc P w K mg base "is_letter" ["thing"] 1 spLetter5 := by
  have sc := sc_letter
  refine D.ok sc (fun _ _ _ _ _ _ us hl => by obtain ⟨_, rfl⟩ := len1 hl; rfl) (fun vs H Q E h => ?_) (fun f cdv A outer s H vs Q E hr h => ?_)
  · obtain ⟨x, rfl, _⟩ := h
    rfl
  · obtain ⟨z, rfl, k⟩ := h
    refine ⟨_, (@pss_one _ _ _ (@ps_ret _ _ _ _ (@pe_and _ _ _ _ _ _ _ (@pe_callB _ _ _ _ _ _ _ _ _ (@call_isK _ (K) rfl) (by rfl) T.isinstance b_isinstance (@pa_cons _ _ _ _ _ (pv 0) (@pa_cons _ _ _ _ _ (@pe_bltn _ _ (.ty "str") _ _ rfl T.str b_str rfl (by decide) (by decide)) pa_nil (by rfl)) (by rfl)) (by decide) (by decide) (by rfl) (by rfl)) (@pe_one _ _ _ _ _ (@pe_kin _ _ _ _ _ _ _ _ _ T.dB rfl rfl B.lo rfl T.mgB (pv 0) (by decide)))))), ?_⟩
    obtain ⟨r, hr1, hr2⟩ := B.all z
    refine ⟨_, rfl, _, _, _, _, rfl, .str z, kit_str, true, rfl, ?_⟩
    refine iteC rfl ⟨_, rfl, z, r, rfl, hr1, ?_⟩
    rw [hr2]
    exact k
noncomputable abbrev s_num : Stmt := top 17
theorem sc_num : FnScope ["letter"] ["letter"] (defScope s_num) := ⟨rfl, rfl, rfl, by decide +kernel, rfl, by decide +kernel, by decide +kernel⟩
theorem c_num (D : Df K mg "number_of" s_num) (T : Bt K w mg aB) (S : ∃ t, mg "SMALL" = some (.str "abcdef" t)) : Fnc P w K mg base "number_of" ["letter"] 1 spNum := by
  have sc := sc_num
  refine D.ok sc (fun _ _ _ _ _ _ us hl => by obtain ⟨_, rfl⟩ := len1 hl; rfl) (fun vs H Q E h => ?_) (fun f cdv A outer s H vs Q E hr h => ?_)
  · obtain ⟨x, rfl, _⟩ := h
    rfl
  · obtain ⟨x, rfl, k⟩ := h
    obtain ⟨tS, mgS⟩ := S
    refine ⟨_, (@pss_one _ _ _ (@ps_ret _ _ _ _ (@pe_bm _ _ _ _ _ _ _ _ _ _ _ _ PySem.F.plainAttrs_str PySem.F.slot_str_index PySem.F.type_str_index mt_index (@pe_glob _ _ (.str "abcdef") _ _ rfl mgS ⟨_, rfl⟩ (by decide)) (@pa_cons _ _ _ _ _ (@pe_bm0 _ _ _ _ _ _ _ _ _ PySem.F.plainAttrs_str PySem.F.slot_str_lower PySem.F.type_str_lower mt_lower (pv 0) (by rfl) (by rfl)) pa_nil (by rfl)) (by rfl) (by rfl) (by rfl) (by rfl) (by rfl)))), ?_⟩
    exact ⟨rfl, _, rfl, rfl, _, rfl, rfl, (by rw [toS_length]; show 1 ≤ 5592405; decide), _, _, _, _, rfl, rfl, num_at x, k⟩
noncomputable abbrev s_word : Stmt := top 16
theorem sc_word : FnScope ["many", "thing"] ["many", "thing"] (defScope s_word) := ⟨rfl, rfl, rfl, by decide +kernel, rfl, by decide +kernel, by decide +kernel⟩
theorem c_word (D : Df K mg "is_word" s_word) (T : Bt K w mg aB) (F_letter : Fnc P w K mg base "is_letter" ["thing"] 1 spLetter5) (F_num : Fnc P w K mg base "number_of" ["letter"] 1 spNum) : Fnc P w K mg base "is_word" ["many", "thing"] 2 spIsW5 := by
  have sc := sc_word
  refine D.ok sc (fun _ _ _ _ _ _ us hl => by obtain ⟨_, _, rfl⟩ := len2 hl; rfl) (fun vs H Q E h => ?_) (fun f cdv A outer s H vs Q E hr h => ?_)
  · obtain ⟨z, rfl, _⟩ := h
    rfl
  · obtain ⟨z, rfl, hz, k⟩ := h
    have l16 := line16
    refine ⟨_, (@pss_cons _ _ _ _ _ (@ps_if _ _ _ _ _ _ _ _ (@pt_not _ _ _ _ (@pt_truth _ _ _ (@pe_callB _ _ _ _ _ _ _ _ _ (@call_isK _ (K) rfl) (by rfl) T.isinstance b_isinstance (@pa_cons _ _ _ _ _ (pv 1) (@pa_cons _ _ _ _ _ (@pe_bltn _ _ (.ty "str") _ _ rfl T.str b_str rfl (by decide) (by decide)) pa_nil (by rfl)) (by rfl)) (by decide) (by decide) (by rfl) (by rfl)) (fun _ => rfl))) (@pss_one _ _ _ (@ps_ret _ _ _ _ pe_bl)) pss_nil) (@pss_one _ _ _ (@ps_ret _ _ _ _ (@pe_callB _ _ _ _ _ _ _ _ _ (@call_all_bools _ rfl) (by rfl) T.all b_all (@pa_cons _ _ _ _ _ (@pe_comp _ _ _ _ _ _ _ (["sign", "many"]) (["sign"]) ([0]) _ _ _ _ (@blk_of _ _ _ _ _ _ rfl (by kernel_rfl)) rfl (@pi_str _ _ _ _ (pv 1)) (fun _ _ _ _ => @pg_name _ _ (0) _ (show (["sign", "many"] : List Str).Nodup from by decide +kernel) rfl (Or.inl rfl) (by first | exact .inl rfl | exact .inr rfl | assumption)) (fun _ _ _ _ => pifs_nil) (fun _ _ _ _ => by (exact @pe_and _ _ _ _ _ _ _ (by (exact (@pe_fn _ _ _ _ _ _ _ _ _ _ _ F_letter hr (by decide) rfl (@pa_cons _ _ _ _ _ (pv 0) pa_nil (by rfl)) (by decide) (by rfl) (by rfl)))) (by (exact @pe_one _ _ _ _ _ (by (exact @pe_cmpR _ _ _ _ _ _ _ _ op_lt (by (exact (@pe_fn _ _ _ _ _ _ _ _ _ _ _ F_num hr (by decide) rfl (@pa_cons _ _ _ _ _ (pv 0) pa_nil (by rfl)) (by decide) (by rfl) (by rfl)))) (by (exact (pv 1))) (nomark _))))))) (by intro _ ; rfl)) pa_nil (by rfl)) (by decide) (by decide) (by rfl) (by rfl))))), ?_⟩
    refine ⟨_, rfl, _, _, _, _, rfl, .str z, kit_str, _, rfl, ?_⟩
    refine ⟨_, rfl, _, rfl, ?_⟩
    refine comp_by (own := ["sign"]) (cap := [0]) (J := Its z) z.cps.size (fun i ys σ H' => ∃ v : Option V, σ = [v, some (.int 6)] ∧ ys = (((z.cps.toList).take i).map (okC 6)).map V.bl ∧ H' = H) ⟨none, rfl, rfl, rfl⟩ (fun i ys σ H' hi ⟨v, _, e, _⟩ => ?_) (by have : z.cps.size ≤ 5000 := hz; omega) (fun i ys σ H' hi _ => hi) (fun ys σ H' _ => rfl) ?_ ?_
    · rw [e, List.length_map, List.length_map, List.length_take]; omega
    · rintro i ys σ H1 y H2 N hi ⟨v, rfl, rfl, rfl⟩ ⟨rfl, c, hc, rfl⟩ hN
      have hc' : z.cps.toList[i]? = some c := by simpa using hc
      have fin : ∀ b, b = okC 6 c → N ((((z.cps.toList).take i).map (okC 6)).map V.bl ++ [.bl b]) [some (.str ⟨#[c]⟩), some (.int 6)] H2 := fun b eb => hN _ _ _ ⟨_, rfl, by rw [List.take_add_one, hc', List.map_append, List.map_append, eb]; rfl, rfl⟩
      refine ⟨_, rfl, _, rfl, _, rfl, ?_⟩
      cases hl : (ltr c).isSome with
      | false =>
        refine iteD hl (fin _ (not_ok hl).symm)
      | true =>
        obtain ⟨x, e1, e2⟩ := isLet_ltr hl
        refine iteC hl ⟨_, rfl, x, by rw [e1]; rfl, _, rfl, ?_⟩
        refine ⟨_, _, rfl, rfl, fin _ ?_⟩
        rw [e2, one_ok]
    · rintro ys σ H1 l ⟨v, rfl, rfl, rfl⟩ hl
      refine ⟨l, _, rfl, SqL.of upd_same, ?_⟩
      rw [List.take_of_length_le (by simp), List.all_map]
      exact k _ (Same.new hl)
end
end Kx
set_option Elab.async false
set_option linter.all false
set_option maxRecDepth 100000
set_option maxHeartbeats 0
namespace Kx
open PySem PySem.Spec PyProof.Rows L2 Wd
section
variable {P : Program} {w : World} {K : PySem.W.Frag} {mg : Str → Option Value} {base : Heap} {aB : Addr}
noncomputable abbrev s_fig : Stmt := top 25
theorem sc_fig : FnScope ["word"] ["word"] (defScope s_fig) := ⟨rfl, rfl, rfl, by decide +kernel, rfl, by decide +kernel, by decide +kernel⟩
theorem c_fig (D : Df K mg "is_figures" s_fig) (T : Bt K w mg aB) (MG : ∃ t, mg "FIGURES" = some (.str "0123456789" t)) (MF : ∃ t, mg "MOST_FIGURES" = some (.int 4 t)) : Fnc P w K mg base "is_figures" ["word"] 1 spFigG := by
  have sc := sc_fig
  refine D.ok sc (fun _ _ _ _ _ _ us hl => by obtain ⟨_, rfl⟩ := len1 hl; rfl) (fun vs H Q E h => ?_) (fun f cdv A outer s H vs Q E hr h => ?_)
  · obtain ⟨z, rfl, _⟩ := h
    rfl
  · obtain ⟨z, rfl, hz, k⟩ := h
    have l16 := line16
    obtain ⟨tG, mgG⟩ := MG
    obtain ⟨tF, mgF4⟩ := MF
    unfold figB at k
    refine ⟨_, (@pss_cons _ _ _ _ _ (@ps_if _ _ _ _ _ _ _ _ (@PW.pt _ _ _ (@pw_or _ _ _ _ _ _ _ (@pt_not _ _ _ _ (@pt_chain _ _ _ _ _ _ _ _ _ _ _ _ op_le op_le pe_int (@pe_callB _ _ _ _ _ _ _ _ _ call_len_str (by rfl) T.len PySem.boot_len (@pa_cons _ _ _ _ _ (pv 0) pa_nil (by rfl)) (by decide) (by decide) (by rfl) (by rfl)) (@pe_glob _ _ (.int 4) _ _ rfl mgF4 ⟨_, rfl⟩ (by decide)) (by with_unfolding_all rfl))) (@pw_or1 _ _ _ _ (@pt_not _ _ _ _ (@pt_truth _ _ _ (@pe_callB _ _ _ _ _ _ _ _ _ (@call_all_bools _ rfl) (by rfl) T.all b_all (@pa_cons _ _ _ _ _ (@pe_comp _ _ _ _ _ _ _ (["sign"]) (["sign"]) ([]) _ _ _ _ (@blk_of _ _ _ _ _ _ rfl (by kernel_rfl)) rfl (@pi_str _ _ _ _ (pv 0)) (fun _ _ _ _ => @pg_name _ _ (0) _ (show (["sign"] : List Str).Nodup from by decide +kernel) rfl (Or.inl rfl) (by first | exact .inl rfl | exact .inr rfl | assumption)) (fun _ _ _ _ => pifs_nil) (fun _ _ _ _ => by (exact (@pe_cmpR _ _ _ _ _ _ _ _ op_in_str (pv 0) (@pe_glob _ _ (.str "0123456789") _ _ rfl mgG ⟨_, rfl⟩ (by decide)) rfl))) (by intro _ ; rfl)) pa_nil (by rfl)) (by decide) (by decide) (by rfl) (by rfl)) (fun _ => rfl)))))) (@pss_one _ _ _ (@ps_ret _ _ _ _ pe_bl)) pss_nil) (@pss_one _ _ _ (@ps_ret _ _ _ _ (@pe_or _ _ _ _ _ _ _ (@pe_cmpR _ _ _ _ _ _ _ _ op_eq (pv 0) pe_str (nomark _)) (@pe_one _ _ _ _ _ (@pe_cmpR _ _ _ _ _ _ _ _ op_ne (@pe_ix _ _ _ _ _ _ _ ix_str (pv 0) pe_int (fun _ _ => rfl)) pe_str (nomark _))))))), ?_⟩
    refine ⟨_, rfl, z, rfl, (by omega), _, _, rfl, rfl, _, rfl, ?_⟩
    by_cases g1 : 1 ≤ z.length
    · rw [decide_eq_true g1, Bool.true_and] at k
      refine iteC (decide_eq_true (by omega)) ⟨_, _, rfl, rfl, _, rfl, ?_⟩
      by_cases g2 : z.length ≤ 4
      · rw [decide_eq_true g2, Bool.true_and] at k
        refine iteD (by rw [decide_eq_true (show (z.length : Int) ≤ 4 by omega)]; rfl) ?_
        refine ⟨_, rfl, _, rfl, ?_⟩
        refine comp_by (own := ["sign"]) (cap := []) (J := Its z) z.cps.size (fun i ys σ H' => ∃ v : Option V, σ = [v] ∧ ys = ((z.cps.toList.take i).map isDig).map V.bl ∧ H' = H) ⟨none, rfl, rfl, rfl⟩ (fun i ys σ H' hi ⟨v, _, e, _⟩ => ?_) (by have : z.cps.size ≤ 4 := g2; omega) (fun i ys σ H' hi _ => hi) (fun ys σ H' _ => rfl) ?_ ?_
        · rw [e, List.length_map, List.length_map, List.length_take]; omega
        · rintro i ys σ H1 y H2 N hi ⟨v, rfl, rfl, rfl⟩ ⟨rfl, c, hc, rfl⟩ hN
          have hc' : z.cps.toList[i]? = some c := by simpa using hc
          refine ⟨_, rfl, _, _, rfl, rfl, ?_⟩
          rw [dig_in2]
          refine hN _ _ _ ⟨_, rfl, ?_, rfl⟩
          rw [List.take_add_one, hc', List.map_append, List.map_append]
          rfl
        · rintro ys σ H1 l ⟨v, rfl, rfl, rfl⟩ hl
          refine ⟨l, _, rfl, SqL.of upd_same, _, rfl, ?_⟩
          rw [List.take_of_length_le (by simp), List.all_map]
          have s1 : Same H1 (upd H1 l (.lst ((z.cps.toList.map isDig).map V.bl))) := Same.new hl
          generalize upd H1 l (.lst ((z.cps.toList.map isDig).map V.bl)) = H2 at s1 ⊢
          have ea : z.cps.toList.all (id ∘ isDig) = z.cps.toList.all isDig := rfl
          rw [ea]
          cases hal : z.cps.toList.all isDig with
          | false =>
            rw [hal, Bool.false_and] at k
            exact iteC rfl (k _ s1)
          | true =>
            rw [hal, Bool.true_and] at k
            refine iteD rfl ?_
            unfold headOk at k
            refine ⟨_, rfl, rfl, _, rfl, ?_⟩
            by_cases h0 : z = "0"
            · rw [decide_eq_true h0, Bool.true_or] at k
              exact iteC (by rw [h0]; exact decide_eq_true rfl) (k _ s1)
            · rw [decide_eq_false h0, Bool.false_or] at k
              refine iteD (decide_eq_false fun e => h0 (V.str.inj e)) ?_
              cases hz0 : z.cps.toList with
              | nil => exact absurd hz0 (len_ne g1)
              | cons c r =>
                refine ⟨_, rfl, _, _, c, rfl, rfl, (by omega), (by rw [hz0]; exact at0 _ _), rfl, ?_⟩
                have e3 : (!decide (V.str (⟨#[c]⟩ : Str) = V.str "0")) = !decide (z.cps.toList.head? = some 48) := by
                  rw [hz0]
                  congr 1
                  rw [Bool.eq_iff_iff, decide_eq_true_iff, decide_eq_true_iff]
                  constructor
                  · intro e
                    have e := congrArg (fun s : Str => s.cps.toList) (V.str.inj e)
                    rw [show ("0" : Str).cps.toList = [48] from c_zero] at e
                    exact congrArg some (List.cons.inj e).1
                  · intro e
                    have : c = 48 := Option.some.inj e
                    subst this
                    exact congrArg V.str (by decide +kernel)
                rw [e3]
                exact k _ s1
      · rw [decide_eq_false g2, Bool.false_and, Bool.false_and] at k
        exact iteC (by rw [decide_eq_false (show ¬ (z.length : Int) ≤ 4 by omega)]; rfl) (k _ (Same.refl _))
    · rw [decide_eq_false g1, Bool.false_and, Bool.false_and, Bool.false_and] at k
      exact iteD (decide_eq_false (by omega)) ⟨_, rfl, iteC rfl (k _ (Same.refl _))⟩
noncomputable abbrev s_stand : Stmt := top 24
theorem sc_stand : FnScope ["kind", "word"] ["kind", "word"] (defScope s_stand) := ⟨rfl, rfl, rfl, by decide +kernel, rfl, by decide +kernel, by decide +kernel⟩
theorem c_stand (D : Df K mg "can_stand" s_stand) (T : Bt K w mg aB) (M : ∃ t, mg "MOST_MANY" = some (.int 6 t)) (F_fig : Fnc P w K mg base "is_figures" ["word"] 1 spFigG) (F_letter : Fnc P w K mg base "is_letter" ["thing"] 1 spLetter5) (F_word : Fnc P w K mg base "is_word" ["many", "thing"] 2 spIsW5) : Fnc P w K mg base "can_stand" ["kind", "word"] 3 spStandG := by
  have sc := sc_stand
  refine D.ok sc (fun _ _ _ _ _ _ us hl => by obtain ⟨_, _, rfl⟩ := len2 hl; rfl) (fun vs H Q E h => ?_) (fun f cdv A outer s H vs Q E hr h => ?_)
  · obtain ⟨k, w', rfl, _⟩ := h
    rfl
  · obtain ⟨kd, z, rfl, hz, k⟩ := h
    have l16 := line16
    obtain ⟨tM, mgM⟩ := M
    refine ⟨_, (@pss_cons _ _ _ _ _ (@ps_if _ _ _ _ _ _ _ _ (@pt_cmpR _ _ _ _ _ _ _ _ op_eq (pv 0) pe_str (nomark _)) (@pss_one _ _ _ (@ps_ret _ _ _ _ (@pe_fn _ _ _ _ _ _ _ _ _ _ _ F_fig hr (by decide) rfl (@pa_cons _ _ _ _ _ (pv 1) pa_nil (by rfl)) (by decide) (by rfl) (by rfl)))) pss_nil) (@pss_cons _ _ _ _ _ (@ps_if _ _ _ _ _ _ _ _ (@pt_cmpR _ _ _ _ _ _ _ _ op_eq (pv 0) pe_str (nomark _)) (@pss_one _ _ _ (@ps_ret _ _ _ _ (@pe_fn _ _ _ _ _ _ _ _ _ _ _ F_letter hr (by decide) rfl (@pa_cons _ _ _ _ _ (pv 1) pa_nil (by rfl)) (by decide) (by rfl) (by rfl)))) pss_nil) (@pss_one _ _ _ (@ps_ret _ _ _ _ (@pe_and _ _ _ _ _ _ _ (@pe_cmpR _ _ _ _ _ _ _ _ op_ne (pv 1) pe_str (nomark _)) (@pe_one _ _ _ _ _ (@pe_fn _ _ _ _ _ _ _ _ _ _ _ F_word hr (by decide) rfl (@pa_cons _ _ _ _ _ (@pe_glob _ _ (.int 6) _ _ rfl mgM ⟨_, rfl⟩ (by decide)) (@pa_cons _ _ _ _ _ (pv 1) pa_nil (by rfl)) (by rfl)) (by decide) (by rfl) (by rfl)))))))), ?_⟩
    cases kd with
    | num => exact ⟨_, rfl, rfl, _, rfl, iteC (by decide +kernel) ⟨_, rfl, z, rfl, hz, k⟩⟩
    | ltr => exact ⟨_, rfl, rfl, _, rfl, iteD (by decide +kernel) ⟨_, rfl, rfl, _, rfl, iteC (by decide +kernel) ⟨_, rfl, z, rfl, k _ (Same.refl _)⟩⟩⟩
    | trn =>
      have k : ∀ H', Same H H' → Q (.bl (turnB z)) H' := k
      unfold turnB at k
      refine ⟨_, rfl, rfl, _, rfl, iteD (by decide +kernel) ⟨_, rfl, rfl, _, rfl, iteD (by decide +kernel) ?_⟩⟩
      refine ⟨_, rfl, rfl, _, rfl, ?_⟩
      by_cases h0 : z = ""
      · rw [decide_eq_true h0] at k
        exact iteD (by rw [h0, decide_eq_true rfl]; rfl) (k _ (Same.refl _))
      · rw [decide_eq_false h0] at k
        exact iteC (by rw [decide_eq_false (fun e => h0 (V.str.inj e))]; rfl) ⟨_, rfl, z, rfl, hz, fun H1 s1 => k _ s1⟩
noncomputable abbrev s_wrong : Stmt := top 23
theorem sc_wrong : FnScope ["words", "form", "place", "word"] ["words"] (defScope s_wrong) := ⟨rfl, rfl, rfl, by decide +kernel, rfl, by decide +kernel, by decide +kernel⟩
theorem c_wrong (D : Df K mg "first_wrong" s_wrong) (T : Bt K w mg aB) (Te : mg "enumerate" = none) {aF : Addr} (FM : FmG K w mg aF) (F_stand : Fnc P w K mg base "can_stand" ["kind", "word"] 3 spStandG) : Fnc P w K mg base "first_wrong" ["words"] 4 spWrongG := by
  have sc := sc_wrong
  refine D.ok sc (fun _ _ _ _ _ _ us hl => by obtain ⟨_, rfl⟩ := len1 hl; rfl) (fun vs H Q E h => ?_) (fun f cdv A outer s H vs Q E hr h => ?_)
  · obtain ⟨ws, l, rfl, _⟩ := h
    rfl
  · obtain ⟨ws, l, rfl, hl, hw, k⟩ := h
    have l16 := line16
    have mgF := FM.mgF
    refine ⟨_, (@pss_cons _ _ _ _ _ (@ps_if _ _ _ _ _ _ _ _ (@pt_knot _ _ _ _ _ _ _ _ _ FM.dF rfl rfl FM.lo rfl mgF (@pe_ix _ _ _ _ _ _ _ ix_list (pv 0) pe_int (fun _ _ => rfl)) (by decide)) (@pss_one _ _ _ (@ps_ret _ _ _ _ pe_int)) pss_nil) (@pss_cons _ _ _ _ _ (@ps_set _ _ (1) _ _ _ _ sc.nd rfl (Or.inl rfl) (@pe_kgetR _ _ _ _ _ _ _ _ _ FM.dF rfl rfl rfl mgF (@pe_ix _ _ _ _ _ _ _ ix_list (pv 0) pe_int (fun _ _ => rfl)) (fun _ _ => rfl) (by decide)) (by rfl) (by first | exact .inl rfl | exact .inr rfl | assumption)) (@pss_cons _ _ _ _ _ (@ps_for _ _ _ _ _ _ _ _ PassesOwn.never rfl (@pi_enl _ _ rfl _ _ _ _ _ _ _ rfl Te b_enumerate (@pa_cons _ _ _ _ _ (@pe_slice _ _ _ _ _ _ _ _ _ _ sl_list (pv 0) (@po_some _ _ _ pe_int) po_none) pa_nil (by rfl)) (by rfl)) (@pg_tup _ _ _ _ _ _ rfl (@pgs_cons _ _ _ _ _ (@pg_name _ _ (2) _ sc.nd rfl (Or.inl rfl) (by first | exact .inl rfl | exact .inr rfl | assumption)) (@pgs_cons _ _ _ _ _ (@pg_name _ _ (3) _ sc.nd rfl (Or.inl rfl) (by first | exact .inl rfl | exact .inr rfl | assumption)) pgs_nil (by rfl)) (by rfl)) (by rfl) (by rfl)) (@pss_one _ _ _ (@ps_if _ _ _ _ _ _ _ _ (@PW.pt _ _ _ (@pw_or _ _ _ _ _ _ _ (@pt_cmpR _ _ _ _ _ _ _ _ op_eq (pv 2) (@pe_callB _ _ _ _ _ _ _ _ _ call_len_seq (by rfl) T.len PySem.boot_len (@pa_cons _ _ _ _ _ (pv 1) pa_nil (by rfl)) (by decide) (by decide) (by rfl) (by rfl)) (nomark _)) (@pw_or1 _ _ _ _ (@pt_not _ _ _ _ (@pt_truth _ _ _ (@pe_fn _ _ _ _ _ _ _ _ _ _ _ F_stand hr (by decide) rfl (@pa_cons _ _ _ _ _ (@pe_ix _ _ _ _ _ _ _ ix_tup (pv 1) (pv 2) (fun _ _ => rfl)) (@pa_cons _ _ _ _ _ (pv 3) pa_nil (by rfl)) (by rfl)) (by decide) (by rfl) (by rfl)) (fun _ => rfl)))))) (@pss_one _ _ _ (@ps_ret _ _ _ _ (@pe_op _ _ _ _ _ _ _ _ op_add (pv 2) pe_int))) pss_nil)) (by intro _ ; rfl)) (@pss_cons _ _ _ _ _ (@ps_if _ _ _ _ _ _ _ _ (@pt_cmpR _ _ _ _ _ _ _ _ op_le (@pe_callB _ _ _ _ _ _ _ _ _ call_len_seq (by rfl) T.len PySem.boot_len (@pa_cons _ _ _ _ _ (pv 0) pa_nil (by rfl)) (by decide) (by decide) (by rfl) (by rfl)) (@pe_callB _ _ _ _ _ _ _ _ _ call_len_seq (by rfl) T.len PySem.boot_len (@pa_cons _ _ _ _ _ (pv 1) pa_nil (by rfl)) (by decide) (by decide) (by rfl) (by rfl)) (nomark _)) (@pss_one _ _ _ (@ps_ret _ _ _ _ (@pe_callB _ _ _ _ _ _ _ _ _ call_len_seq (by rfl) T.len PySem.boot_len (@pa_cons _ _ _ _ _ (pv 0) pa_nil (by rfl)) (by decide) (by decide) (by rfl) (by rfl)))) pss_nil) (@pss_one _ _ _ (@ps_ret _ _ _ _ pe_non)))))), ?_⟩
    cases ws with
    | nil => exact absurd rfl hw.ne
    | cons w0 r =>
      have ha0 : atI ((w0 :: r).map V.str) 0 = some (.str w0) := at0 _ _
      cases hf : formOf w0 with
      | none =>
        have e : wrongOf (w0 :: r) = some 0 := wrong_none hf
        rw [e] at k
        exact ⟨_, rfl, l, _, 0, .str w0, rfl, rfl, SqL.of hl, ha0, w0, _, rfl, FM.no w0 hf, iteC rfl (k _ (Same.refl _))⟩
      | some fm =>
        have ew : wrongOf (w0 :: r) = wr fm r 1 := wrong_some hf
        rw [ew] at k
        obtain ⟨b, hns, hform⟩ := FM.get w0 fm hf
        have fl := form_lenG hf
        have hrn := hw.n
        rw [List.length_cons] at hrn
        refine ⟨_, rfl, l, _, 0, .str w0, rfl, rfl, SqL.of hl, ha0, w0, _, rfl, hns, iteD rfl ?_⟩
        refine ⟨_, rfl, l, _, 0, .str w0, rfl, rfl, SqL.of hl, ha0, w0, b, rfl, hns, ?_⟩
        refine ⟨_, rfl, _, rfl, l, _, rfl, SqL.of hl, fun p hp => ?_⟩
        have ec : cutV ((w0 :: r).map V.str) (some 1) none = r.map V.str := by rw [List.map_cons]; exact cut1 _ _
        rw [ec]
        refine ⟨p, rfl, ⟨_, SqL.of upd_same⟩, for_enl (xs := r.map V.str) (fun i σ H' => ∃ b1 b2 : Option V, σ = [some (.ref l), some (.ref b), b1, b2] ∧ Same H H' ∧ H' p = some (.lst (r.map V.str)) ∧ i ≤ fm.length ∧ wr fm r 1 = wr (fm.drop i) (r.drop i) (1 + i)) ⟨none, none, rfl, Same.new hp, upd_same, Nat.zero_le _, rfl⟩ (fun i σ H' hi ⟨_, _, _, _, q, _⟩ => SqL.of q) ?_ ?_⟩
        · rintro i x σ H1 t hx ⟨b1, b2, rfl, s1, p1, hif, hwr⟩ ht
          obtain ⟨wd, hwd, ex⟩ : ∃ wd, r[i]? = some wd ∧ x = .str wd := by
            rw [List.getElem?_map] at hx
            cases hq : r[i]? with
            | none => rw [hq] at hx; cases hx
            | some wd => rw [hq] at hx; exact ⟨wd, rfl, (Option.some.inj hx).symm⟩
          subst ex
          have hir := (List.getElem?_eq_some_iff.mp hwd).1
          have s2 : Same H1 (upd H1 t (.tup [.int i, .str wd])) := Same.new ht
          have p2 := s2 _ _ p1
          refine ⟨t, _, rfl, SqT.of upd_same, rfl, _, _, rfl, _, _, rfl, rfl, ?_⟩
          generalize upd H1 t (.tup [.int i, .str wd]) = H2 at s2 p2 ⊢
          refine ⟨_, rfl, _, rfl, b, _, rfl, .inr (hform _), rfl, _, rfl, ?_⟩
          rw [List.length_map]
          have e1 : (i : Int) + 1 = ((1 + i : Nat) : Int) := by omega
          by_cases hie : i = fm.length
          · have hbad : wr fm r 1 = some (1 + i) := by rw [hwr, hie]; exact wr_more (by omega)
            rw [hbad] at k
            refine iteC (decide_eq_true (by rw [hie])) ⟨_, rfl, _, _, rfl, rfl, ?_⟩
            have := k _ (s1.trans s2)
            rw [show (optV (some (1 + i))) = V.int ((i : Int) + 1) from congrArg V.int e1.symm] at this
            exact this
          · have hlt : i < fm.length := by omega
            have hkd : fm[i]? = some fm[i] := List.getElem?_eq_getElem hlt
            generalize fm[i] = kd at hkd
            refine iteD (decide_eq_false fun e => by have := V.int.inj e; omega) ?_
            refine ⟨_, rfl, _, rfl, b, _, _, _, rfl, rfl, hform _, atI_get (by rw [List.getElem?_map, hkd]; rfl), _, rfl, kd, wd, rfl, hw.l wd (List.mem_cons_of_mem _ (List.mem_of_getElem? hwd)), fun H3 s3 => ⟨_, rfl, ?_⟩⟩
            cases hs : standB kd wd with
            | true =>
              refine iteD rfl ⟨_, _, rfl, (s1.trans s2).trans s3, s3 _ _ p2, by omega, ?_⟩
              rw [hwr, wr_step hkd hwd hs]
              rfl
            | false =>
              have hbad : wr fm r 1 = some (1 + i) := by rw [hwr]; exact wr_bad hkd hwd hs
              rw [hbad] at k
              refine iteC rfl ⟨_, rfl, _, _, rfl, rfl, ?_⟩
              have := k _ ((s1.trans s2).trans s3)
              rw [show (optV (some (1 + i))) = V.int ((i : Int) + 1) from congrArg V.int e1.symm] at this
              exact this
        · rintro σ H1 ⟨b1, b2, rfl, s1, p1, hif, hwr⟩
          rw [List.length_map] at hif hwr
          refine ⟨_, rfl, l, _, rfl, .inl (SqL.of (s1 _ _ hl)), _, rfl, b, _, rfl, .inr (hform _), _, _, rfl, rfl, _, rfl, ?_⟩
          rw [List.length_map, List.length_map, List.length_cons]
          by_cases hlf : r.length < fm.length
          · have hbad : wr fm r 1 = some (1 + r.length) := by rw [hwr]; exact wr_less hlf
            rw [hbad] at k
            refine iteC (decide_eq_true (by omega)) ⟨_, rfl, l, _, rfl, .inl (SqL.of (s1 _ _ hl)), ?_⟩
            rw [List.length_map, List.length_cons]
            have := k _ s1
            rw [show (optV (some (1 + r.length))) = V.int ((r.length + 1 : Nat) : Int) from congrArg V.int (by omega)] at this
            exact this
          · have hgood : wr fm r 1 = none := by rw [hwr]; exact wr_done (by omega)
            rw [hgood] at k
            exact iteD (decide_eq_false (by omega)) (k _ s1)
end
end Kx
set_option Elab.async false
set_option linter.all false
set_option maxRecDepth 100000
set_option maxHeartbeats 0
namespace Kx
open PySem PySem.Spec PyProof.Rows L2 Wd
section
variable {P : Program} {w : World} {K : PySem.W.Frag} {mg : Str → Option Value} {base : Heap} {aB : Addr}
noncomputable abbrev s_stepof : Stmt := top 26
theorem sc_stepof : FnScope ["words", "parts", "kind", "word"] ["words"] (defScope s_stepof) := ⟨rfl, rfl, rfl, by decide +kernel, rfl, by decide +kernel, by decide +kernel⟩
theorem c_stepof (D : Df K mg "step_of" s_stepof) (T : Bt K w mg aB) {aF : Addr} (FM : FmG K w mg aF) : Fnc P w K mg base "step_of" ["words"] 1 spStepG := by
  have sc := sc_stepof
  refine D.ok sc (fun _ _ _ _ _ _ us hl => by obtain ⟨_, rfl⟩ := len1 hl; rfl) (fun vs H Q E h => ?_) (fun f cdv A outer s H vs Q E hr h => ?_)
  · obtain ⟨ws, l, rfl, _⟩ := h
    rfl
  · obtain ⟨ws, l, rfl, hl, hw, hno, k⟩ := h
    have l16 := line16
    have mgF := FM.mgF
    refine ⟨_, (@pss_cons _ _ _ _ _ (@ps_set _ _ (1) _ _ _ _ sc.nd rfl (Or.inl rfl) (@pe_lst _ _ _ _ (@pa_cons _ _ _ _ _ (@pe_ix _ _ _ _ _ _ _ ix_list (pv 0) pe_int (fun _ _ => rfl)) pa_nil (by rfl))) (by rfl) (by first | exact .inl rfl | exact .inr rfl | assumption)) (@pss_cons _ _ _ _ _ (@ps_for _ _ _ _ _ _ _ _ PassesOwn.never rfl (@pi_zipTL _ _ rfl _ _ _ _ _ _ _ _ rfl T.zip b_zip (@pa_cons _ _ _ _ _ (@pe_kgetR _ _ _ _ _ _ _ _ _ FM.dF rfl rfl rfl mgF (@pe_ix _ _ _ _ _ _ _ ix_list (pv 0) pe_int (fun _ _ => rfl)) (fun _ _ => rfl) (by decide)) (@pa_cons _ _ _ _ _ (@pe_slice _ _ _ _ _ _ _ _ _ _ sl_list (pv 0) (@po_some _ _ _ pe_int) po_none) pa_nil (by rfl)) (by rfl)) (by rfl) (by rfl)) (@pg_tup _ _ _ _ _ _ rfl (@pgs_cons _ _ _ _ _ (@pg_name _ _ (2) _ sc.nd rfl (Or.inl rfl) (by first | exact .inl rfl | exact .inr rfl | assumption)) (@pgs_cons _ _ _ _ _ (@pg_name _ _ (3) _ sc.nd rfl (Or.inl rfl) (by first | exact .inl rfl | exact .inr rfl | assumption)) pgs_nil (by rfl)) (by rfl)) (by rfl) (by rfl)) (@pss_one _ _ _ (@ps_expr _ _ _ _ (@pe_bm _ _ _ _ _ _ _ _ _ _ _ _ PySem.F.plainAttrs_list PySem.F.slot_list_append PySem.F.type_list_append mt_append (pv 1) (@pa_cons _ _ _ _ _ (@pe_ifExp _ _ _ _ _ _ _ _ (@pt_cmpR _ _ _ _ _ _ _ _ op_eq (pv 2) pe_str (nomark _)) (@pe_callTy _ _ _ _ _ _ _ _ _ call_int_text (by rfl) T.int b_int (@pa_cons _ _ _ _ _ (pv 3) pa_nil (by rfl)) (by decide) (by decide) (by rfl) (by rfl)) (pv 3)) pa_nil (by rfl)) (by rfl) (by rfl) (by rfl) (by rfl) (by rfl)) (by rfl))) (by intro _ ; rfl)) (@pss_one _ _ _ (@ps_ret _ _ _ _ (@pe_callTy _ _ _ _ _ _ _ _ _ call_tuple_of (by rfl) T.tuple b_tuple (@pa_cons _ _ _ _ _ (pv 1) pa_nil (by rfl)) (by decide) (by decide) (by rfl) (by rfl)))))), ?_⟩
    cases ws with
    | nil => exact absurd rfl hw.ne
    | cons w0 r =>
      have ha0 : atI ((w0 :: r).map V.str) 0 = some (.str w0) := at0 _ _
      cases hf : formOf w0 with
      | none => rw [wrong_none hf] at hno; cases hno
      | some fm =>
        rw [wrong_some hf] at hno
        rw [stepV_some hf] at k
        obtain ⟨hfr, hst⟩ := wr_ok _ _ _ hno
        obtain ⟨b, hns, hform⟩ := FM.get w0 fm hf
        have fl := form_lenG hf
        refine ⟨_, rfl, l, _, 0, .str w0, rfl, rfl, SqL.of hl, ha0, (by show 1 ≤ sizeLine; decide), fun q hq => ?_⟩
        have nq : ∀ b o, H b = some o → b ≠ q := fun b o e => ne_of_none e hq
        have sq : Same H (upd H q (.lst [.str w0])) := Same.new hq
        have fq : (upd H q (.lst [.str w0])) q = some (.lst [.str w0]) := upd_same
        generalize upd H q (.lst [.str w0]) = H0 at sq fq ⊢
        refine ⟨_, rfl, l, _, 0, .str w0, rfl, rfl, SqL.of (sq _ _ hl), ha0, w0, b, rfl, hns, ?_⟩
        refine ⟨_, rfl, _, rfl, l, _, rfl, SqL.of (sq _ _ hl), fun p hp => ?_⟩
        have ec : cutV ((w0 :: r).map V.str) (some 1) none = r.map V.str := by rw [List.map_cons]; exact cut1 _ _
        rw [ec]
        have npq : p ≠ q := (ne_of_none fq hp).symm
        refine ⟨b, p, rfl, ⟨_, hform _⟩, ⟨_, SqL.of upd_same⟩, for_zipTL (xs := fm.map fun k : Kd => V.str k.name) (ys := r.map V.str) (fun i σ H' => ∃ b1 b2 : Option V, σ = [some (.ref l), some (.ref q), b1, b2] ∧ Same H H' ∧ H' p = some (.lst (r.map V.str)) ∧ H' q = some (.lst (.str w0 :: (List.zipWith kdV fm r).take i)))
          ⟨none, none, rfl, sq.then hp, upd_same, by rw [upd_ne npq.symm]; exact fq⟩ (fun i σ H' ⟨_, _, _, _, q, _⟩ => ⟨hform H', SqL.of q⟩) ?_ ?_⟩
        · rintro i x y σ H1 t hx hy ⟨b1, b2, rfl, s1, p1, q1⟩ ht
          obtain ⟨kd, hkd, ex⟩ : ∃ kd, fm[i]? = some kd ∧ x = .str kd.name := by
            rw [List.getElem?_map] at hx
            cases hq : fm[i]? with
            | none => rw [hq] at hx; cases hx
            | some kd => rw [hq] at hx; exact ⟨kd, rfl, (Option.some.inj hx).symm⟩
          obtain ⟨wd, hwd, ey⟩ : ∃ wd, r[i]? = some wd ∧ y = .str wd := by
            rw [List.getElem?_map] at hy
            cases hq : r[i]? with
            | none => rw [hq] at hy; cases hy
            | some wd => rw [hq] at hy; exact ⟨wd, rfl, (Option.some.inj hy).symm⟩
          subst ex ey
          have hi := (List.getElem?_eq_some_iff.mp hkd).1
          have s2 : Same H1 (upd H1 t (.tup [.str kd.name, .str wd])) := Same.new ht
          have p2 := s2 _ _ p1
          have q2 := s2 _ _ q1
          refine ⟨t, _, rfl, SqT.of upd_same, rfl, _, _, rfl, _, _, rfl, rfl, ?_⟩
          generalize upd H1 t (.tup [.str kd.name, .str wd]) = H2 at s2 p2 q2 ⊢
          have step := zip_snoc hkd hwd
          have fin : ∀ v, v = kdV kd wd → ∃ b1 b2 : Option V, [some (.ref l), some (.ref q), some (V.str kd.name), some (V.str wd)] = [some (.ref l), some (.ref q), b1, b2] ∧ Same H (upd H2 q (.lst (.str w0 :: (List.zipWith kdV fm r).take i ++ [v]))) ∧ (upd H2 q (.lst (.str w0 :: (List.zipWith kdV fm r).take i ++ [v]))) p = some (.lst (r.map V.str)) ∧ (upd H2 q (.lst (.str w0 :: (List.zipWith kdV fm r).take i ++ [v]))) q = some (.lst (.str w0 :: (List.zipWith kdV fm r).take (i + 1))) := fun v ev =>
            ⟨_, _, rfl, fun b o e => by rw [upd_ne (nq b o e)]; exact s2 _ _ (s1 _ _ e), by rw [upd_ne npq]; exact p2, by rw [upd_same, step, ev]; rfl⟩
          have hlen : (V.str w0 :: (List.zipWith kdV fm r).take i).length < sizeLine := by rw [List.length_cons, List.length_take]; omega
          refine ⟨_, rfl, .inl ⟨rfl, _, SqL.of q2⟩, _, rfl, rfl, _, rfl, ?_⟩
          have hs := hst i kd wd hkd hwd
          cases kd with
          | num =>
            obtain ⟨g1, g2⟩ := fig_int (show figB wd = true from hs)
            exact iteC (by decide +kernel) ⟨_, rfl, wd, valS wd, rfl, g1, by omega, q, _, _, rfl, rfl, q2, hlen, fin _ rfl⟩
          | ltr => exact iteD (by decide +kernel) ⟨_, rfl, q, _, _, rfl, rfl, q2, hlen, fin _ rfl⟩
          | trn => exact iteD (by decide +kernel) ⟨_, rfl, q, _, _, rfl, rfl, q2, hlen, fin _ rfl⟩
        · rintro σ H1 ⟨b1, b2, rfl, s1, p1, q1⟩
          rw [List.length_map, List.length_map, List.take_of_length_le (by rw [List.length_zipWith]; exact Nat.le_refl _)] at q1
          exact ⟨_, rfl, q, _, rfl, .inl ⟨SqL.of q1, fun z hz => k z _ (none_of s1 hz) upd_same (s1.then hz)⟩⟩
noncomputable abbrev s_read : Stmt := top 22
theorem sc_read : FnScope ["text", "steps", "number", "part", "words", "wrong"] ["text"] (defScope s_read) := ⟨rfl, rfl, rfl, by decide +kernel, rfl, by decide +kernel, by decide +kernel⟩
theorem c_read {CT : Addr} (D : Df K mg "read_steps" s_read) (T : Bt K w mg aB) (Te : mg "enumerate" = none) (F_wrong : Fnc P w K mg base "first_wrong" ["words"] 4 spWrongG) (F_stepof : Fnc P w K mg base "step_of" ["words"] 1 spStepG) (M_text : XMk P w K mg base "NoText" CT ["step", "word"] 1) : FncX P w K mg base "read_steps" ["text"] 5 (spReadG CT) := by
  have sc := sc_read
  refine D.okX sc (fun _ _ _ _ _ _ us hl => by obtain ⟨_, rfl⟩ := len1 hl; rfl) (fun vs H Q E h => ?_) (fun f cdv A outer s H vs Q E hr h => ?_)
  · obtain ⟨z, rfl, _⟩ := h
    rfl
  · obtain ⟨z, rfl, hz, k0, k1, k2⟩ := h
    have l16 := line16
    have hu := hu_of hr
    refine ⟨_, (@pss_cons _ _ _ _ _ (@ps_if _ _ _ _ _ _ _ _ (@pt_cmpR _ _ _ _ _ _ _ _ op_eq (pv 0) pe_str (nomark _)) (@pss_one _ _ _ (@ps_ret _ _ _ _ (@pe_tup _ _ _ _ _ pa_nil))) pss_nil) (@pss_cons _ _ _ _ _ (@ps_set _ _ (1) _ _ _ _ sc.nd rfl (Or.inl rfl) (@pe_lst _ _ _ _ pa_nil) (by rfl) (by first | exact .inl rfl | exact .inr rfl | assumption)) (@pss_cons _ _ _ _ _ (@ps_for _ _ _ _ _ _ _ _ PassesOwn.leaving rfl (@pi_enl _ _ rfl _ _ _ _ _ _ _ rfl Te b_enumerate (@pa_cons _ _ _ _ _ (@pe_bm _ _ _ _ _ _ _ _ _ _ _ _ PySem.F.plainAttrs_str PySem.F.slot_str_split PySem.F.type_str_split mt_split (pv 0) (@pa_cons _ _ _ _ _ pe_str pa_nil (by rfl)) (by rfl) (by rfl) (by rfl) (by rfl) (by rfl)) pa_nil (by rfl)) (by rfl)) (@pg_tup _ _ _ _ _ _ rfl (@pgs_cons _ _ _ _ _ (@pg_name _ _ (2) _ sc.nd rfl (Or.inl rfl) (by first | exact .inl rfl | exact .inr rfl | assumption)) (@pgs_cons _ _ _ _ _ (@pg_name _ _ (3) _ sc.nd rfl (Or.inl rfl) (by first | exact .inl rfl | exact .inr rfl | assumption)) pgs_nil (by rfl)) (by rfl)) (by rfl) (by rfl)) (@pss_cons _ _ _ _ _ (@ps_set _ _ (4) _ _ _ _ sc.nd rfl (Or.inl rfl) (@pe_bm _ _ _ _ _ _ _ _ _ _ _ _ PySem.F.plainAttrs_str PySem.F.slot_str_split PySem.F.type_str_split mt_split (pv 3) (@pa_cons _ _ _ _ _ pe_str pa_nil (by rfl)) (by rfl) (by rfl) (by rfl) (by rfl) (by rfl)) (by rfl) (by first | exact .inl rfl | exact .inr rfl | assumption)) (@pss_cons _ _ _ _ _ (@ps_set _ _ (5) _ _ _ _ sc.nd rfl (Or.inl rfl) (@pe_fn _ _ _ _ _ _ _ _ _ _ _ F_wrong hr (by decide) rfl (@pa_cons _ _ _ _ _ (pv 4) pa_nil (by rfl)) (by decide) (by rfl) (by rfl)) (by rfl) (by first | exact .inl rfl | exact .inr rfl | assumption)) (@pss_cons _ _ _ _ _ (@ps_if _ _ _ _ _ _ _ _ (@pt_cmpR _ _ _ _ _ _ _ _ op_notN (pv 5) pe_non (nomark _)) (@pss_one _ _ _ (@ps_raiseX _ _ _ _ _ raises_def rfl (@pe_mk _ _ _ _ _ _ _ _ _ _ _ M_text hr (by decide) rfl (@pa_cons _ _ _ _ _ (pv 2) (@pa_cons _ _ _ _ _ (pv 5) pa_nil (by rfl)) (by rfl)) (by decide) (by rfl) (by rfl)))) pss_nil) (@pss_one _ _ _ (@ps_expr _ _ _ _ (@pe_bm _ _ _ _ _ _ _ _ _ _ _ _ PySem.F.plainAttrs_list PySem.F.slot_list_append PySem.F.type_list_append mt_append (pv 1) (@pa_cons _ _ _ _ _ (@pe_fn _ _ _ _ _ _ _ _ _ _ _ F_stepof hr (by decide) rfl (@pa_cons _ _ _ _ _ (pv 4) pa_nil (by rfl)) (by decide) (by rfl) (by rfl)) pa_nil (by rfl)) (by rfl) (by rfl) (by rfl) (by rfl) (by rfl)) (by rfl)))))) (by intro _ ; rfl)) (@pss_one _ _ _ (@ps_ret _ _ _ _ (@pe_callTy _ _ _ _ _ _ _ _ _ call_tuple_of (by rfl) T.tuple b_tuple (@pa_cons _ _ _ _ _ (pv 1) pa_nil (by rfl)) (by decide) (by decide) (by rfl) (by rfl))))))), ?_⟩
    by_cases hd : z = "-"
    · refine ⟨_, rfl, rfl, _, rfl, iteC (by rw [hd]; exact decide_eq_true rfl) ⟨(by show 0 ≤ sizeLine; decide), fun p hp => k0 hd p _ upd_same (Same.new hp)⟩⟩
    · have k1 := k1 hd
      have k2 := k2 hd
      refine ⟨_, rfl, rfl, _, rfl, iteD (decide_eq_false fun e => hd (V.str.inj e)) ?_⟩
      refine ⟨(by show 0 ≤ sizeLine; decide), fun q hq => ?_⟩
      have sq : Same H (upd H q (.lst [])) := Same.new hq
      have fq : (upd H q (.lst [])) q = some (.lst []) := upd_same
      have nq : ∀ b o, H b = some o → b ≠ q := fun b o e => ne_of_none e hq
      generalize upd H q (.lst []) = H0 at sq fq ⊢
      have hzl := hz.len
      have hzn := hz.n
      refine ⟨_, rfl, rfl, _, _, rfl, rfl, by decide +kernel, by omega, by omega, fun p hp => ?_⟩
      have npq : p ≠ q := (ne_of_none fq hp).symm
      have hpl := hz.pl
      have hwd := hz.wd
      have hpo : partsOf z = (Txt.split z "; ").map fun p => Txt.split p " " := rfl
      generalize Txt.split z "; " = ps at hpl hwd hpo hzn ⊢
      refine ⟨p, rfl, ⟨_, SqL.of upd_same⟩, for_enl (xs := ps.map V.str) (fun i σ H' => ∃ (b2 b3 b4 b5 : Option V) (xs : List V), σ = [some (.str z), some (.ref q), b2, b3, b4, b5] ∧ Same H H' ∧ H' p = some (.lst (ps.map V.str)) ∧ H' q = some (.lst xs) ∧ StG H' xs ((partsOf z).take i) ∧ firstBad (partsOf z) 0 = firstBad ((partsOf z).drop i) i)
        ⟨none, none, none, none, [], rfl, sq.then hp, upd_same, by rw [upd_ne npq.symm]; exact fq, by rw [List.take_zero]; exact .nil, rfl⟩ (fun i σ H' hi ⟨_, _, _, _, _, _, _, q, _⟩ => SqL.of q) ?_ ?_⟩
      · rintro i x σ H1 t hx ⟨b2, b3, b4, b5, xs, rfl, s1, p1, q1, st1, hb1⟩ ht
        obtain ⟨pt, hpt, ex⟩ : ∃ pt, ps[i]? = some pt ∧ x = .str pt := by
          rw [List.getElem?_map] at hx
          cases hq2 : ps[i]? with
          | none => rw [hq2] at hx; cases hx
          | some pt => rw [hq2] at hx; exact ⟨pt, rfl, (Option.some.inj hx).symm⟩
        subst ex
        have hi := (List.getElem?_eq_some_iff.mp hpt).1
        have hm := List.mem_of_getElem? hpt
        have hW := hwd pt hm
        have hpp : (partsOf z)[i]? = some (Txt.split pt " ") := by rw [hpo, List.getElem?_map, hpt]; rfl
        have s2 : Same H1 (upd H1 t (.tup [.int i, .str pt])) := Same.new ht
        refine ⟨t, _, rfl, SqT.of upd_same, rfl, _, _, rfl, _, _, rfl, rfl, ?_⟩
        generalize upd H1 t (.tup [.int i, .str pt]) = H2 at s2 ⊢
        have := hpl pt hm
        have hwn := hW.n
        refine ⟨_, rfl, rfl, _, _, rfl, rfl, by decide +kernel, by omega, by omega, fun l hl => ?_⟩
        generalize Txt.split pt " " = ws at hW hpp hwn ⊢
        have s3 : Same H2 (upd H2 l (.lst (ws.map V.str))) := Same.new hl
        have f3 : (upd H2 l (.lst (ws.map V.str))) l = some (.lst (ws.map V.str)) := upd_same
        generalize upd H2 l (.lst (ws.map V.str)) = H3 at s3 f3 ⊢
        refine ⟨_, rfl, ws, l, rfl, f3, hW, fun H4 s4 => ?_⟩
        have a4 := (s2.trans s3).trans s4
        cases hwr : wrongOf ws with
        | some n =>
          have hbad := hb1.trans (bad_here hpp hwr)
          refine ⟨_, rfl, rfl, _, rfl, iteC rfl ?_⟩
          have k3 := k2 i n hbad
          refine ⟨_, rfl, _, rfl, rfl, by decide, fun a dx ha hdx hne => ?_⟩
          have na : ∀ b o, H4 b = some o → b ≠ a := fun b o e => ne_of_none e ha
          have nd : ∀ b o, H4 b = some o → b ≠ dx := fun b o e => ne_of_none e hdx
          refine ⟨a, CT, some dx, rfl, by rw [upd_ne hne.symm, upd_same], M_text.ca.1, k3 a dx _ upd_same ?_ fun b o e => ?_⟩
          · rw [upd_ne hne, upd_same]
            rfl
          · have e4 := a4 _ _ (s1 _ _ e)
            rw [upd_ne (na b o e4), upd_ne (nd b o e4), upd_ne (na b o e4)]
            exact e4
        | none =>
          refine ⟨_, rfl, rfl, _, rfl, iteD rfl ?_⟩
          refine ⟨_, rfl, .inl ⟨rfl, _, SqL.of (a4 _ _ q1)⟩, _, rfl, ws, l, rfl, s4 _ _ f3, hW, hwr, fun p5 H5 hp5 f5 s5 => ⟨q, _, _, rfl, rfl, s5 _ _ (a4 _ _ q1), ?_, ?_⟩⟩
          · have := st1.length
            rw [List.length_take] at this
            omega
          · have a5 := a4.trans s5
            have tq : ∀ a ys, H5 a = some (.tup ys) → (upd H5 q (.lst (xs ++ [.ref p5]))) a = some (.tup ys) := fun a ys e => by
              rw [upd_ne (ne_of e (s5 _ _ (a4 _ _ q1)) (by intro z; cases z))]; exact e
            refine ⟨_, _, _, _, xs ++ [.ref p5], rfl, fun b o e => by rw [upd_ne (nq b o e)]; exact a5 _ _ (s1 _ _ e), by rw [upd_ne npq]; exact a5 _ _ p1, upd_same, ?_, hb1.trans (bad_step hpp hwr)⟩
            rw [List.take_add_one, hpp]
            exact (StG.snoc (st1.same fun a ys e => a5 _ _ e) f5 hwr).same tq
      · rintro σ H1 ⟨b2, b3, b4, b5, xs, rfl, s1, p1, q1, st1, hb1⟩
        rw [List.length_map] at st1 hb1
        have hpl2 : (partsOf z).length = ps.length := by rw [hpo, List.length_map]
        rw [← hpl2, List.take_length] at st1
        rw [← hpl2, List.drop_length] at hb1
        exact ⟨_, rfl, q, _, rfl, .inl ⟨SqL.of q1, fun y hy => k1 hb1 y xs _ upd_same (st1.same fun a ys e => Same.new hy _ _ e) (s1.then hy)⟩⟩
end
end Kx
set_option Elab.async false
set_option linter.all false
set_option maxRecDepth 100000
set_option maxHeartbeats 0
namespace Kx
open PySem PySem.Spec PyProof.Rows L2 Wd
section
variable {P : Program} {w : World} {K : PySem.W.Frag} {mg : Str → Option Value} {base : Heap} {aB : Addr}
noncomputable abbrev s_isnum : Stmt := top 30
theorem sc_isnum : FnScope ["_law_word"] ["_law_word"] (defScope s_isnum) := ⟨rfl, rfl, rfl, by decide +kernel, rfl, by decide +kernel, by decide +kernel⟩
theorem c_isnum (D : Df K mg "_law_is_number" s_isnum) (T : Bt K w mg aB) : Fnc P w K mg base "_law_is_number" ["_law_word"] 1 spFigG := by
  have sc := sc_isnum
  refine D.ok sc (fun _ _ _ _ _ _ us hl => by obtain ⟨_, rfl⟩ := len1 hl; rfl) (fun vs H Q E h => ?_) (fun f cdv A outer s H vs Q E hr h => ?_)
  · obtain ⟨z, rfl, _⟩ := h
    rfl
  · obtain ⟨z, rfl, hz, k⟩ := h
    have l16 := line16
    unfold figB at k
    refine ⟨_, (@pss_cons _ _ _ _ _ (@ps_if _ _ _ _ _ _ _ _ (@PW.pt _ _ _ (@pw_or _ _ _ _ _ _ _ (@pt_not _ _ _ _ (@pt_chain _ _ _ _ _ _ _ _ _ _ _ _ op_lt op_lt pe_int (@pe_callB _ _ _ _ _ _ _ _ _ call_len_str (by rfl) T.len PySem.boot_len (@pa_cons _ _ _ _ _ (pv 0) pa_nil (by rfl)) (by decide) (by decide) (by rfl) (by rfl)) pe_int (by with_unfolding_all rfl))) (@pw_or1 _ _ _ _ (@pt_cmpR _ _ _ _ _ _ _ _ (@op_ne_nil _ (by exact hr.units)) (@pe_comp _ _ _ _ _ _ _ (["_law_sign"]) (["_law_sign"]) ([]) _ _ _ _ (@blk_of _ _ _ _ _ _ rfl (by kernel_rfl)) rfl (@pi_str _ _ _ _ (pv 0)) (fun _ _ _ _ => @pg_name _ _ (0) _ (show (["_law_sign"] : List Str).Nodup from by decide +kernel) rfl (Or.inl rfl) (by first | exact .inl rfl | exact .inr rfl | assumption)) (fun _ _ _ _ => (@pifs_one _ _ _ (by exact (@pt_cmpR _ _ _ _ _ _ _ _ (@op_notIn_K _ (K) rfl) (pv 0) (@pe_callTy _ _ _ _ _ _ _ _ _ (@call_list_signs _ rfl) (by rfl) T.list b_list (@pa_cons _ _ _ _ _ pe_str pa_nil (by rfl)) (by decide) (by decide) (by rfl) (by rfl)) rfl)))) (fun _ _ _ _ => by (exact (pv 0))) (by intro _ ; rfl)) (@pe_lst _ _ _ _ pa_nil) (nomark _))))) (@pss_one _ _ _ (@ps_ret _ _ _ _ pe_bl)) pss_nil) (@pss_one _ _ _ (@ps_ret _ _ _ _ (@pe_cmpR _ _ _ _ _ _ _ _ op_eq (@pe_callTy _ _ _ _ _ _ _ _ _ call_strV (by rfl) T.str b_str (@pa_cons _ _ _ _ _ (@pe_callTy _ _ _ _ _ _ _ _ _ call_int_text (by rfl) T.int b_int (@pa_cons _ _ _ _ _ (pv 0) pa_nil (by rfl)) (by decide) (by decide) (by rfl) (by rfl)) pa_nil (by rfl)) (by decide) (by decide) (by rfl) (by rfl)) (pv 0) (nomark _))))), ?_⟩
    refine ⟨_, rfl, z, rfl, (by omega), _, _, rfl, rfl, _, rfl, ?_⟩
    by_cases g1 : 1 ≤ z.length
    · rw [decide_eq_true g1, Bool.true_and] at k
      refine iteC (decide_eq_true (by omega)) ⟨_, _, rfl, rfl, _, rfl, ?_⟩
      by_cases g2 : z.length ≤ 4
      · rw [decide_eq_true g2, Bool.true_and] at k
        refine iteD (by rw [decide_eq_true (show (z.length : Int) < 5 by omega)]; rfl) ?_
        refine ⟨_, rfl, _, rfl, ?_⟩
        refine comp_by (own := ["_law_sign"]) (cap := []) (J := Its z) z.cps.size (fun i ys σ H' => ∃ v : Option V, σ = [v] ∧ ys = ((z.cps.toList.take i).filter fun c => !isDig c).map (fun c => V.str ⟨#[c]⟩) ∧ Same H H') ⟨none, rfl, rfl, Same.refl _⟩ (fun i ys σ H' hi ⟨v, _, e, _⟩ => ?_) (by have : z.cps.size ≤ 4 := g2; omega) (fun i ys σ H' hi _ => hi) (fun ys σ H' _ => rfl) ?_ ?_
        · rw [e, List.length_map]
          exact Nat.le_trans (List.length_filter_le _ _) (by rw [List.length_take]; omega)
        · rintro i ys σ H1 y H2 N hi ⟨v, rfl, rfl, s1⟩ ⟨rfl, c, hc, rfl⟩ hN
          have hc' : z.cps.toList[i]? = some c := by simpa using hc
          refine ⟨_, rfl, _, rfl, (by rw [show ("0123456789" : Str).length = 10 by decide +kernel]; omega), fun p hp => ⟨p, _, rfl, .inl (SqL.of upd_same), rfl, flat_signs _, _, rfl, ?_⟩⟩
          rw [if_pos rfl, dig_list]
          cases ho : isDig c with
          | true =>
            refine iteD rfl (hN _ _ _ ⟨_, rfl, ?_, s1.then hp⟩)
            rw [take_filter _ hc', List.map_append]
            simp [ho]
          | false =>
            refine iteC rfl ⟨_, rfl, hN _ _ _ ⟨_, rfl, ?_, s1.then hp⟩⟩
            rw [take_filter _ hc', List.map_append]
            simp [ho]
        · rintro ys σ H1 l ⟨v, rfl, rfl, s1⟩ hl
          rw [List.take_of_length_le (by simp)]
          refine ⟨(by show 0 ≤ sizeLine; decide), fun p hp => ⟨l, p, _, rfl, rfl, by rw [upd_ne (ne_of_none upd_same hp)]; exact upd_same, upd_same, _, rfl, ?_⟩⟩
          have ee : ((z.cps.toList.filter fun c => !isDig c).map fun c => V.str ⟨#[c]⟩).isEmpty = z.cps.toList.all isDig := by
            rw [Bool.eq_iff_iff, List.isEmpty_iff, List.map_eq_nil_iff, List.filter_eq_nil_iff, List.all_eq_true]
            constructor
            · intro h c hc
              have := h c hc
              simpa using this
            · intro h c hc
              rw [h c hc]
              decide
          rw [ee]
          have s2 := (s1.then (o := .lst ((z.cps.toList.filter fun c => !isDig c).map fun c => V.str ⟨#[c]⟩)) hl).then (o := .lst []) hp
          generalize upd _ p _ = H2 at s2 ⊢
          cases hal : z.cps.toList.all isDig with
          | false =>
            rw [hal, Bool.false_and] at k
            exact iteC rfl (k _ s2)
          | true =>
            rw [hal, Bool.true_and] at k
            have hv := val_small hal g2
            refine iteD rfl ⟨_, rfl, z, valS z, rfl, int_of hal g1 g2, by omega, .inl ⟨_, rfl, ?_, _, rfl, rfl, ?_⟩⟩
            · obtain ⟨m, hm⟩ := Int.eq_ofNat_of_zero_le hv.1
              rw [hm]
              exact log_ok (by omega)
            · have e := head_iff hal g1
              show Q (.bl (decide (V.str (Str.ofString (toString (valS z))) = V.str z))) H2
              rw [e]
              exact k _ s2
      · rw [decide_eq_false g2, Bool.false_and, Bool.false_and] at k
        exact iteC (by rw [decide_eq_false (show ¬ (z.length : Int) < 5 by omega)]; rfl) (k _ (Same.refl _))
    · rw [decide_eq_false g1, Bool.false_and, Bool.false_and, Bool.false_and] at k
      exact iteD (decide_eq_false (by omega)) ⟨_, rfl, iteC rfl (k _ (Same.refl _))⟩
noncomputable abbrev s_fits : Stmt := top 31
theorem sc_fits : FnScope ["_law_kind", "_law_word", "_law_letters"] ["_law_kind", "_law_word"] (defScope s_fits) := ⟨rfl, rfl, rfl, by decide +kernel, rfl, by decide +kernel, by decide +kernel⟩
theorem c_fits (D : Df K mg "_law_fits" s_fits) (T : Bt K w mg aB) (F_isnum : Fnc P w K mg base "_law_is_number" ["_law_word"] 1 spFigG) : Fnc P w K mg base "_law_fits" ["_law_kind", "_law_word"] 2 spFitsG := by
  have sc := sc_fits
  refine D.ok sc (fun _ _ _ _ _ _ us hl => by obtain ⟨_, _, rfl⟩ := len2 hl; rfl) (fun vs H Q E h => ?_) (fun f cdv A outer s H vs Q E hr h => ?_)
  · obtain ⟨k, w', rfl, _⟩ := h
    rfl
  · obtain ⟨kd, z, rfl, hz, k⟩ := h
    have l16 := line16
    refine ⟨_, (@pss_cons _ _ _ _ _ (@ps_if _ _ _ _ _ _ _ _ (@pt_cmpR _ _ _ _ _ _ _ _ op_eq (pv 0) pe_str (nomark _)) (@pss_one _ _ _ (@ps_ret _ _ _ _ (@pe_fn _ _ _ _ _ _ _ _ _ _ _ F_isnum hr (by decide) rfl (@pa_cons _ _ _ _ _ (pv 1) pa_nil (by rfl)) (by decide) (by rfl) (by rfl)))) pss_nil) (@pss_cons _ _ _ _ _ (@ps_setC _ (2) _ _ _ _ _ _ _ _ _ (["_law_sign"]) (["_law_sign"]) ([]) _ _ _ _ sc.nd rfl (Or.inl rfl) (@blk_of _ _ _ _ _ _ rfl (by kernel_rfl)) rfl (@pi_str _ _ _ _ (pv 1)) (fun _ _ _ _ => @pg_name _ _ (0) _ (show (["_law_sign"] : List Str).Nodup from by decide +kernel) rfl (Or.inl rfl) (by first | exact .inl rfl | exact .inr rfl | assumption)) (fun _ _ _ _ => (@pifs_one _ _ _ (by exact (@pt_cmpR _ _ _ _ _ _ _ _ (@op_in_K _ (K) rfl) (pv 0) (@pe_callTy _ _ _ _ _ _ _ _ _ (@call_list_signs _ rfl) (by rfl) T.list b_list (@pa_cons _ _ _ _ _ pe_str pa_nil (by rfl)) (by decide) (by decide) (by rfl) (by rfl)) rfl)))) (fun _ _ _ _ => by (exact (pv 0))) (by intro _ ; rfl) (by rfl) (by first | exact .inl rfl | exact .inr rfl | assumption)) (@pss_one _ _ _ (@ps_ret _ _ _ _ (@pe_and _ _ _ _ _ _ _ (@pe_cmpR _ _ _ _ _ _ _ _ op_eq (@pe_callB _ _ _ _ _ _ _ _ _ call_len_seq (by rfl) T.len PySem.boot_len (@pa_cons _ _ _ _ _ (pv 2) pa_nil (by rfl)) (by decide) (by decide) (by rfl) (by rfl)) (@pe_callB _ _ _ _ _ _ _ _ _ call_len_str (by rfl) T.len PySem.boot_len (@pa_cons _ _ _ _ _ (pv 1) pa_nil (by rfl)) (by decide) (by decide) (by rfl) (by rfl)) (nomark _)) (@pe_one _ _ _ _ _ (@pe_or _ _ _ _ _ _ _ (@pe_cmpR _ _ _ _ _ _ _ _ op_eq (@pe_callB _ _ _ _ _ _ _ _ _ call_len_str (by rfl) T.len PySem.boot_len (@pa_cons _ _ _ _ _ (pv 1) pa_nil (by rfl)) (by decide) (by decide) (by rfl) (by rfl)) pe_int (nomark _)) (@pe_one _ _ _ _ _ (@pe_and _ _ _ _ _ _ _ (@pe_cmpR _ _ _ _ _ _ _ _ op_eq (pv 0) pe_str (nomark _)) (@pe_one _ _ _ _ _ (@pe_cmpR _ _ _ _ _ _ _ _ op_gt (@pe_callB _ _ _ _ _ _ _ _ _ call_len_str (by rfl) T.len PySem.boot_len (@pa_cons _ _ _ _ _ (pv 1) pa_nil (by rfl)) (by decide) (by decide) (by rfl) (by rfl)) pe_int (nomark _)))))))))))), ?_⟩
    by_cases hn : kd = .num
    · subst hn
      exact ⟨_, rfl, rfl, _, rfl, iteC (by decide +kernel) ⟨_, rfl, z, rfl, hz, k⟩⟩
    · have hnn : decide (V.str (⟨#[kd.sgn]⟩ : Str) = V.str "n") = false := by
        cases kd with
        | num => exact absurd rfl hn
        | ltr => decide +kernel
        | trn => decide +kernel
      refine ⟨_, rfl, rfl, _, rfl, iteD hnn ?_⟩
      refine ⟨_, rfl, _, rfl, ?_⟩
      refine comp_by (own := ["_law_sign"]) (cap := []) (J := Its z) z.cps.size (fun i ys σ H' => ∃ v : Option V, σ = [v] ∧ ys = ((z.cps.toList.take i).filter fun c => okC 6 c).map (fun c => V.str ⟨#[c]⟩) ∧ Same H H') ⟨none, rfl, rfl, Same.refl _⟩ (fun i ys σ H' hi ⟨v, _, e, _⟩ => ?_) (by have : z.cps.size ≤ 5000 := hz; omega) (fun i ys σ H' hi _ => hi) (fun ys σ H' _ => rfl) ?_ ?_
      · rw [e, List.length_map]
        exact Nat.le_trans (List.length_filter_le _ _) (by rw [List.length_take]; omega)
      · rintro i ys σ H1 y H2 N hi ⟨v, rfl, rfl, s1⟩ ⟨rfl, c, hc, rfl⟩ hN
        have hc' : z.cps.toList[i]? = some c := by simpa using hc
        refine ⟨_, rfl, _, rfl, (by rw [len_s12]; omega), fun p hp => ⟨p, _, rfl, .inl (SqL.of upd_same), rfl, flat_signs _, _, rfl, ?_⟩⟩
        rw [if_neg (by decide), in_s12]
        cases ho : okC 6 c with
        | true =>
          refine iteC rfl ⟨_, rfl, hN _ _ _ ⟨_, rfl, ?_, s1.then hp⟩⟩
          rw [take_filter _ hc', List.map_append]
          simp [ho]
        | false =>
          refine iteD rfl (hN _ _ _ ⟨_, rfl, ?_, s1.then hp⟩)
          rw [take_filter _ hc', List.map_append]
          simp [ho]
      · rintro ys σ H1 l ⟨v, rfl, rfl, s1⟩ hl
        rw [List.take_of_length_le (by simp)]
        have s2 := s1.then (o := .lst ((z.cps.toList.filter fun c => okC 6 c).map fun c => V.str ⟨#[c]⟩)) hl
        have f2 : (upd H1 l (.lst ((z.cps.toList.filter fun c => okC 6 c).map fun c => V.str ⟨#[c]⟩))) l = some (.lst ((z.cps.toList.filter fun c => okC 6 c).map fun c => V.str ⟨#[c]⟩)) := upd_same
        generalize upd H1 l (.lst ((z.cps.toList.filter fun c => okC 6 c).map fun c => V.str ⟨#[c]⟩)) = H2 at s2 f2 ⊢
        refine ⟨_, rfl, l, _, rfl, .inl (SqL.of f2), _, rfl, z, rfl, (by omega), rfl, _, rfl, ?_⟩
        rw [fil_len]
        have d1 : decide (V.int (z.length : Int) = V.int 1) = decide (z.length = 1) := by
          rw [Bool.eq_iff_iff, decide_eq_true_iff, decide_eq_true_iff]
          exact ⟨fun e => by have := V.int.inj e; omega, fun e => by rw [e]; rfl⟩
        cases hw : isW 6 z with
        | false =>
          have : standB kd z = false := by
            cases kd with
            | num => exact absurd rfl hn
            | ltr => show isLet z = false; rw [let_one, hw]; rfl
            | trn => show turnB z = false; rw [turn_any, hw]; rfl
          rw [this] at k
          exact iteD rfl (k _ s2)
        | true =>
          refine iteC rfl ⟨_, rfl, z, rfl, (by omega), rfl, _, rfl, ?_⟩
          rw [d1]
          cases kd with
          | num => exact absurd rfl hn
          | ltr =>
            have k : ∀ H', Same H H' → Q (.bl (isLet z)) H' := k
            rw [let_one, hw, Bool.true_and] at k
            by_cases g : z.length = 1
            · rw [decide_eq_true g] at k
              exact iteC (decide_eq_true g) (k _ s2)
            · rw [decide_eq_false g] at k
              exact iteD (decide_eq_false g) ⟨_, rfl, rfl, _, rfl, iteD (by decide +kernel) (k _ s2)⟩
          | trn =>
            have k : ∀ H', Same H H' → Q (.bl (turnB z)) H' := k
            rw [turn_any, hw, Bool.true_and] at k
            by_cases g : z.length = 1
            · rw [decide_eq_true g, Bool.true_or] at k
              exact iteC (decide_eq_true g) (k _ s2)
            · rw [decide_eq_false g, Bool.false_or] at k
              refine iteD (decide_eq_false g) ⟨_, rfl, rfl, _, rfl, iteC (by decide +kernel) ⟨_, rfl, z, rfl, (by omega), _, _, rfl, rfl, ?_⟩⟩
              have e : decide ((1 : Int) < (z.length : Int)) = decide (1 < z.length) := decide_eq_decide.mpr (by omega)
              show Q (.bl (decide ((1 : Int) < (z.length : Int)))) H2
              rw [e]
              exact k _ s2
end
end Kx
set_option Elab.async false
set_option linter.all false
set_option maxRecDepth 100000
set_option maxHeartbeats 0
namespace Kx
open PySem PySem.Spec PyProof.Rows L2 Wd
section
variable {P : Program} {w : World} {K : PySem.W.Frag} {mg : Str → Option Value} {base : Heap} {aB : Addr}
noncomputable abbrev s_stepin : Stmt := top 32
theorem sc_stepin : FnScope ["_law_words", "_law_kinds", "_law_at"] ["_law_words"] (defScope s_stepin) := ⟨rfl, rfl, rfl, by decide +kernel, rfl, by decide +kernel, by decide +kernel⟩
theorem c_stepin (D : Df K mg "_law_step_in" s_stepin) (T : Bt K w mg aB) (F_isnum : Fnc P w K mg base "_law_is_number" ["_law_word"] 1 spFigG) (F_fits : Fnc P w K mg base "_law_fits" ["_law_kind", "_law_word"] 2 spFitsG) : Fnc P w K mg base "_law_step_in" ["_law_words"] 3 spStepIn := by
  have sc := sc_stepin
  refine D.ok sc (fun _ _ _ _ _ _ us hl => by obtain ⟨_, rfl⟩ := len1 hl; rfl) (fun vs H Q E h => ?_) (fun f cdv A outer s H vs Q E hr h => ?_)
  · obtain ⟨ws, l, rfl, _⟩ := h
    rfl
  · obtain ⟨ws, l, rfl, hl, hw, k1, k2⟩ := h
    have l16 := line16
    have hu := hu_of hr
    refine ⟨_, (@pss_cons _ _ _ _ _ (@ps_set _ _ (1) _ _ _ _ sc.nd rfl (Or.inl rfl) (@pe_dget1 _ _ _ _ _ _ _ hu (@pe_disp _ _ _ _ _ (@pps_cons _ _ _ _ _ _ _ _ _ pe_str pe_str (@pps_cons _ _ _ _ _ _ _ _ _ pe_str pe_str (@pps_cons _ _ _ _ _ _ _ _ _ pe_str pe_str pps_nil))) rfl rfl (by simp) (by decide)) (@pe_ix _ _ _ _ _ _ _ ix_list (pv 0) pe_int (fun _ _ => rfl)) ⟨rfl, rfl, rfl, rfl⟩) (by rfl) (by first | exact .inl rfl | exact .inr rfl | assumption)) (@pss_cons _ _ _ _ _ (@ps_if _ _ _ _ _ _ _ _ (@pt_cmpR _ _ _ _ _ _ _ _ op_isN (pv 1) pe_non (nomark _)) (@pss_one _ _ _ (@ps_ret _ _ _ _ pe_int)) pss_nil) (@pss_cons _ _ _ _ _ (@ps_for _ _ _ _ _ _ _ _ PassesOwn.never rfl (@pi_range2 _ _ _ _ _ _ _ rfl T.range (@pa_cons _ _ _ _ _ pe_int (@pa_cons _ _ _ _ _ (@pe_op _ _ _ _ _ _ _ _ op_add (@pe_callB _ _ _ _ _ _ _ _ _ call_len_str (by rfl) T.len PySem.boot_len (@pa_cons _ _ _ _ _ (pv 1) pa_nil (by rfl)) (by decide) (by decide) (by rfl) (by rfl)) pe_int) pa_nil (by rfl)) (by rfl)) (by rfl) (by rfl)) (@pg_name _ _ (2) _ sc.nd rfl (Or.inl rfl) (by first | exact .inl rfl | exact .inr rfl | assumption)) (@pss_one _ _ _ (@ps_if _ _ _ _ _ _ _ _ (@PW.pt _ _ _ (@pw_or _ _ _ _ _ _ _ (@pt_cmpR _ _ _ _ _ _ _ _ op_ge (pv 2) (@pe_callB _ _ _ _ _ _ _ _ _ call_len_seq (by rfl) T.len PySem.boot_len (@pa_cons _ _ _ _ _ (pv 0) pa_nil (by rfl)) (by decide) (by decide) (by rfl) (by rfl)) (nomark _)) (@pw_or1 _ _ _ _ (@pt_not _ _ _ _ (@pt_truth _ _ _ (@pe_fn _ _ _ _ _ _ _ _ _ _ _ F_fits hr (by decide) rfl (@pa_cons _ _ _ _ _ (@pe_ix _ _ _ _ _ _ _ ix_str (pv 1) (@pe_op _ _ _ _ _ _ _ _ op_sub (pv 2) pe_int) (fun _ _ => rfl)) (@pa_cons _ _ _ _ _ (@pe_ix _ _ _ _ _ _ _ ix_list (pv 0) (pv 2) (fun _ _ => rfl)) pa_nil (by rfl)) (by rfl)) (by decide) (by rfl) (by rfl)) (fun _ => rfl)))))) (@pss_one _ _ _ (@ps_ret _ _ _ _ (pv 2))) pss_nil)) (by intro _ ; rfl)) (@pss_cons _ _ _ _ _ (@ps_if _ _ _ _ _ _ _ _ (@pt_cmpR _ _ _ _ _ _ _ _ op_gt (@pe_callB _ _ _ _ _ _ _ _ _ call_len_seq (by rfl) T.len PySem.boot_len (@pa_cons _ _ _ _ _ (pv 0) pa_nil (by rfl)) (by decide) (by decide) (by rfl) (by rfl)) (@pe_op _ _ _ _ _ _ _ _ op_add pe_int (@pe_callB _ _ _ _ _ _ _ _ _ call_len_str (by rfl) T.len PySem.boot_len (@pa_cons _ _ _ _ _ (pv 1) pa_nil (by rfl)) (by decide) (by decide) (by rfl) (by rfl))) (nomark _)) (@pss_one _ _ _ (@ps_ret _ _ _ _ (@pe_op _ _ _ _ _ _ _ _ op_add pe_int (@pe_callB _ _ _ _ _ _ _ _ _ call_len_str (by rfl) T.len PySem.boot_len (@pa_cons _ _ _ _ _ (pv 1) pa_nil (by rfl)) (by decide) (by decide) (by rfl) (by rfl))))) pss_nil) (@pss_one _ _ _ (@ps_ret _ _ _ _ (@pe_callTy _ _ _ _ _ _ _ _ _ call_tuple_of (by rfl) T.tuple b_tuple (@pa_cons _ _ _ _ _ (@pe_comp _ _ _ _ _ _ _ (["_law_word"]) (["_law_word"]) ([]) _ _ _ _ (@blk_of _ _ _ _ _ _ rfl (by kernel_rfl)) rfl (@pi_list _ _ _ _ (pv 0)) (fun _ _ _ _ => @pg_name _ _ (0) _ (show (["_law_word"] : List Str).Nodup from by decide +kernel) rfl (Or.inl rfl) (by first | exact .inl rfl | exact .inr rfl | assumption)) (fun _ _ _ _ => pifs_nil) (fun _ _ _ _ => by (exact (@pe_ifExp _ _ _ _ _ _ _ _ (@pt_bl _ _ _ (@pe_fn _ _ _ _ _ _ _ _ _ _ _ F_isnum hr (by decide) rfl (@pa_cons _ _ _ _ _ (pv 0) pa_nil (by rfl)) (by decide) (by rfl) (by rfl)) (fun _ => rfl)) (@pe_callTy _ _ _ _ _ _ _ _ _ call_int_text (by rfl) T.int b_int (@pa_cons _ _ _ _ _ (pv 0) pa_nil (by rfl)) (by decide) (by decide) (by rfl) (by rfl)) (pv 0)))) (by intro _ ; rfl)) pa_nil (by rfl)) (by decide) (by decide) (by rfl) (by rfl)))))))), ?_⟩
    intro p hp
    refine ⟨upd_same, kkv, rfl, (by show 3 ≤ 15; decide), ?_⟩
    rw [upd_upd, m_kkv]
    have sp : Same H (upd H p (.dK kkv)) := Same.new hp
    have fp : (upd H p (.dK kkv)) p = some (.dK kkv) := upd_same
    generalize upd H p (.dK kkv) = H0 at sp fp ⊢
    have hl0 := hl
    have hl := sp _ _ hl
    cases ws with
    | nil => exact absurd rfl hw.ne
    | cons w0 r =>
      have ha0 : atI ((w0 :: r).map V.str) 0 = some (.str w0) := at0 _ _
      refine ⟨p, rfl, .inl ⟨_, .inl fp⟩, _, rfl, l, _, _, _, rfl, rfl, SqL.of hl, ha0, _, DGet.k (k := kS w0) fp, ?_⟩
      rw [kkv_get]
      cases hf : formOf w0 with
      | none =>
        refine ⟨_, rfl, rfl, _, rfl, iteC (by decide) ?_⟩
        exact k1 0 (wrong_none hf) _ sp
      | some fm =>
        have fl := form_lenG hf
        have sl := sgnS_len fm
        have hrn := hw.n
        rw [List.length_cons] at hrn
        have ew := wrong_some (r := r) hf
        rw [ew] at k1 k2
        refine ⟨_, rfl, rfl, _, rfl, iteD (decide_eq_false (fun e => by cases e)) ?_⟩
        refine ⟨_, rfl, _, rfl, (by omega), _, _, rfl, rfl, _, _, rfl, ⟨by decide, by decide, by omega, by omega⟩, ?_⟩
        have en : (((sgnS fm).length : Int) + 1 - 1).toNat = fm.length := by omega
        refine for_range (lo := 1) (n := (((sgnS fm).length : Int) + 1 - 1).toNat) (fun i σ H' => ∃ b2 : Option V, σ = [some (.ref l), some (.str (sgnS fm)), b2] ∧ Same H H' ∧ i ≤ r.length ∧ wr fm r 1 = wr (fm.drop i) (r.drop i) (1 + i)) ⟨none, rfl, sp, Nat.zero_le _, rfl⟩ ?_ ?_
        · rintro i σ H1 hi ⟨b2, rfl, s1, hir, hwr⟩
          rw [en] at hi
          have e1 : (1 : Int) + (i : Int) = ((1 + i : Nat) : Int) := by omega
          rw [e1]
          have hk : fm[i]? = some fm[i] := List.getElem?_eq_getElem hi
          refine ⟨_, rfl, _, rfl, l, _, rfl, .inl (SqL.of (s1 _ _ hl0)), _, _, rfl, rfl, _, rfl, ?_⟩
          rw [List.length_map, List.length_cons]
          by_cases hlt : r.length = i
          · refine iteC (decide_eq_true (by omega)) (iteC rfl ⟨_, rfl, k1 (1 + i) (hwr.trans ?_) _ s1⟩)
            subst hlt
            exact wr_less hi
          · have hir2 : i < r.length := by omega
            have hwd : r[i]? = some r[i] := List.getElem?_eq_getElem hir2
            have hat : atI ((w0 :: r).map V.str) ((1 + i : Nat) : Int) = some (.str r[i]) := atI_get (by rw [Nat.add_comm, List.getElem?_map, List.getElem?_cons_succ, hwd]; rfl)
            have hwl := hw.l _ (List.mem_cons_of_mem _ (List.mem_of_getElem? hwd))
            refine iteD (decide_eq_false (by omega)) ?_
            refine ⟨_, rfl, _, rfl, _, _, rfl, rfl, _, _, _, rfl, rfl, (by omega), (by rw [show ((1 + i : Nat) : Int) - 1 = (i : Int) by omega]; exact sgnS_at hk), _, rfl, _, rfl, l, _, _, _, rfl, rfl, SqL.of (s1 _ _ hl0), hat, fm[i], r[i], rfl, hwl, fun H2 s2 => ⟨_, rfl, ?_⟩⟩
            cases hst : standB fm[i] r[i] with
            | false => exact iteC rfl ⟨_, rfl, k1 (1 + i) (hwr.trans (wr_bad hk hwd hst)) _ (s1.trans s2)⟩
            | true => exact iteD rfl ⟨_, rfl, s1.trans s2, hir2, hwr.trans (wr_step hk hwd hst)⟩
        · rintro σ H1 ⟨b2, rfl, s1, hir, hwr⟩
          rw [en] at hir hwr
          refine ⟨_, rfl, l, _, rfl, .inl (SqL.of (s1 _ _ hl0)), _, rfl, _, rfl, (by omega), _, _, rfl, rfl, _, _, rfl, rfl, _, rfl, ?_⟩
          rw [List.length_map, List.length_cons]
          by_cases hlt : fm.length < r.length
          · refine iteC (decide_eq_true (by omega)) ⟨_, rfl, _, rfl, (by omega), _, _, rfl, rfl, ?_⟩
            have e2 : (1 : Int) + ((sgnS fm).length : Int) = ((1 + fm.length : Nat) : Int) := by omega
            show Q (.int ((1 : Int) + ((sgnS fm).length : Int))) H1
            rw [e2]
            exact k1 _ (hwr.trans (wr_more hlt)) _ s1
          · refine iteD (decide_eq_false (by omega)) ?_
            have hno : wr fm r 1 = none := by
              have : fm.length = r.length := by omega
              rw [hwr, this]
              exact wr_done this.symm
            have k3 := k2 hno
            rw [step_vals hf hno] at k3
            refine ⟨_, rfl, l, rfl, ⟨_, SqL.of (s1 _ _ hl0)⟩, comp_list (own := ["_law_word"]) (cap := []) (xs := (w0 :: r).map V.str) (fun i ys σ H' => ∃ v : Option V, σ = [v] ∧ ys = ((w0 :: r).take i).map (fun z => if figB z = true then V.int (valS z) else .str z) ∧ Same H H') ⟨none, rfl, rfl, s1⟩ (fun i ys σ H' hi ⟨v, _, e, _⟩ => ?_) (by rw [List.length_map, List.length_cons]; omega) (fun i ys σ H' ⟨v, _, _, s2⟩ => SqL.of (s2 _ _ hl0)) ?_ ?_⟩
            · rw [e, List.length_map, List.length_take]
              omega
            · rintro i ys σ H2 x N hx ⟨v, rfl, rfl, s2⟩ hN
              obtain ⟨z, hz, ex⟩ : ∃ z, (w0 :: r)[i]? = some z ∧ x = .str z := by
                rw [List.getElem?_map] at hx
                cases hq2 : (w0 :: r)[i]? with
                | none => rw [hq2] at hx; cases hx
                | some z => rw [hq2] at hx; exact ⟨z, rfl, (Option.some.inj hx).symm⟩
              subst ex
              have hzl := hw.l _ (List.mem_of_getElem? hz)
              dsimp only [gName, tYes]
              rw [if_pos rfl]
              refine ⟨_, rfl, z, rfl, hzl, fun H3 s3 => ⟨_, rfl, ?_⟩⟩
              cases hfg : figB z with
              | true =>
                obtain ⟨g1, g2⟩ := fig_int hfg
                refine iteC rfl ⟨_, rfl, z, valS z, rfl, g1, by omega, hN _ _ _ ⟨_, rfl, ?_, s2.trans s3⟩⟩
                rw [take_map _ hz, if_pos hfg]
              | false =>
                refine iteD rfl ⟨_, rfl, hN _ _ _ ⟨_, rfl, ?_, s2.trans s3⟩⟩
                rw [take_map _ hz, if_neg (by rw [hfg]; decide)]
            · rintro ys σ H2 D ⟨v, rfl, rfl, s2⟩ hD
              rw [List.length_map, List.take_length]
              refine ⟨D, _, rfl, .inl ⟨SqL.of upd_same, fun p2 hp2 => ?_⟩⟩
              exact k3 p2 _ (none_of (s2.then hD) hp2) upd_same ((s2.then hD).then hp2)
end
end Kx
set_option Elab.async false
set_option linter.all false
set_option maxRecDepth 100000
set_option maxHeartbeats 0
namespace Kx
open PySem PySem.Spec PyProof.Rows L2 Wd
section
variable {P : Program} {w : World} {K : PySem.W.Frag} {mg : Str → Option Value} {base : Heap} {aB : Addr}
theorem kit_ii12 {K : PySem.W.Frag} : PySem.W.kitOne K (.type "int") (.type "int") = some true := by unfold PySem.W.kitOne; rw [if_pos (by rfl)]
theorem kit_ti12 {K : PySem.W.Frag} : PySem.W.kitOne K (.type "tuple") (.type "int") = some false := by kernel_rfl
noncomputable abbrev s_due : Stmt := top 33
theorem sc_due : FnScope ["_law_text", "_law_found", "_law_part", "_law_step"] ["_law_text"] (defScope s_due) := ⟨rfl, rfl, rfl, by decide +kernel, rfl, by decide +kernel, by decide +kernel⟩
theorem c_due (D : Df K mg "_law_due" s_due) (T : Bt K w mg aB) (F_stepin : Fnc P w K mg base "_law_step_in" ["_law_words"] 3 spStepIn) : Fnc P w K mg base "_law_due" ["_law_text"] 4 spTold := by
  have sc := sc_due
  refine D.ok sc (fun _ _ _ _ _ _ us hl => by obtain ⟨_, rfl⟩ := len1 hl; rfl) (fun vs H Q E h => ?_) (fun f cdv A outer s H vs Q E hr h => ?_)
  · obtain ⟨z, rfl, _⟩ := h
    rfl
  · obtain ⟨z, rfl, hz, k⟩ := h
    have l16 := line16
    have hu := hu_of hr
    refine ⟨_, (@pss_cons _ _ _ _ _ (@ps_set _ _ (1) _ _ _ _ sc.nd rfl (Or.inl rfl) (@pe_lst _ _ _ _ pa_nil) (by rfl) (by first | exact .inl rfl | exact .inr rfl | assumption)) (@pss_cons _ _ _ _ _ (@ps_if _ _ _ _ _ _ _ _ (@pt_cmpR _ _ _ _ _ _ _ _ op_eq (pv 0) pe_str (nomark _)) (@pss_one _ _ _ (@ps_ret _ _ _ _ (@pe_tup _ _ _ _ _ pa_nil))) pss_nil) (@pss_cons _ _ _ _ _ (@ps_for _ _ _ _ _ _ _ _ PassesOwn.never rfl (@pi_list _ _ _ _ (@pe_bm _ _ _ _ _ _ _ _ _ _ _ _ PySem.F.plainAttrs_str PySem.F.slot_str_split PySem.F.type_str_split mt_split (pv 0) (@pa_cons _ _ _ _ _ pe_str pa_nil (by rfl)) (by rfl) (by rfl) (by rfl) (by rfl) (by rfl))) (@pg_name _ _ (2) _ sc.nd rfl (Or.inl rfl) (by first | exact .inl rfl | exact .inr rfl | assumption)) (@pss_cons _ _ _ _ _ (@ps_set _ _ (3) _ _ _ _ sc.nd rfl (Or.inl rfl) (@pe_fn _ _ _ _ _ _ _ _ _ _ _ F_stepin hr (by decide) rfl (@pa_cons _ _ _ _ _ (@pe_bm _ _ _ _ _ _ _ _ _ _ _ _ PySem.F.plainAttrs_str PySem.F.slot_str_split PySem.F.type_str_split mt_split (pv 2) (@pa_cons _ _ _ _ _ pe_str pa_nil (by rfl)) (by rfl) (by rfl) (by rfl) (by rfl) (by rfl)) pa_nil (by rfl)) (by decide) (by rfl) (by rfl)) (by rfl) (by first | exact .inl rfl | exact .inr rfl | assumption)) (@pss_cons _ _ _ _ _ (@ps_if _ _ _ _ _ _ _ _ (@pt_truth _ _ _ (@pe_callB _ _ _ _ _ _ _ _ _ (@call_isK _ (K) rfl) (by rfl) T.isinstance b_isinstance (@pa_cons _ _ _ _ _ (pv 3) (@pa_cons _ _ _ _ _ (@pe_bltn _ _ (.ty "int") _ _ rfl T.int b_int rfl (by decide) (by decide)) pa_nil (by rfl)) (by rfl)) (by decide) (by decide) (by rfl) (by rfl)) (fun _ => rfl)) (@pss_one _ _ _ (@ps_ret _ _ _ _ (@pe_tup _ _ _ _ _ (@pa_cons _ _ _ _ _ pe_str (@pa_cons _ _ _ _ _ (@pe_callB _ _ _ _ _ _ _ _ _ call_len_seq (by rfl) T.len PySem.boot_len (@pa_cons _ _ _ _ _ (pv 1) pa_nil (by rfl)) (by decide) (by decide) (by rfl) (by rfl)) (@pa_cons _ _ _ _ _ (pv 3) pa_nil (by rfl)) (by rfl)) (by rfl))))) pss_nil) (@pss_one _ _ _ (@ps_expr _ _ _ _ (@pe_bm _ _ _ _ _ _ _ _ _ _ _ _ PySem.F.plainAttrs_list PySem.F.slot_list_append PySem.F.type_list_append mt_append (pv 1) (@pa_cons _ _ _ _ _ (pv 3) pa_nil (by rfl)) (by rfl) (by rfl) (by rfl) (by rfl) (by rfl)) (by rfl))))) (by intro _ ; rfl)) (@pss_one _ _ _ (@ps_ret _ _ _ _ (@pe_callTy _ _ _ _ _ _ _ _ _ call_tuple_of (by rfl) T.tuple b_tuple (@pa_cons _ _ _ _ _ (pv 1) pa_nil (by rfl)) (by decide) (by decide) (by rfl) (by rfl))))))), ?_⟩
    refine ⟨(by show 0 ≤ sizeLine; decide), fun q hq => ?_⟩
    have sq : Same H (upd H q (.lst [])) := Same.new hq
    have fq : (upd H q (.lst [])) q = some (.lst []) := upd_same
    have nq : ∀ b o, H b = some o → b ≠ q := fun b o e => ne_of_none e hq
    generalize upd H q (.lst []) = H0 at sq fq ⊢
    by_cases hd : z = "-"
    · refine ⟨_, rfl, rfl, _, rfl, iteC (by rw [hd]; exact decide_eq_true rfl) ⟨(by show 0 ≤ sizeLine; decide), fun p hp => k p _ ?_ (sq.then hp)⟩⟩
      rw [hd, due_dash]
      exact .tup upd_same .nil
    · refine ⟨_, rfl, rfl, _, rfl, iteD (decide_eq_false fun e => hd (V.str.inj e)) ?_⟩
      have k1 : firstBad (partsOf z) 0 = none → ∀ p xs H', H' p = some (.tup xs) → StG H' xs (partsOf z) → Same H H' → Q (.ref p) H' := fun hb p xs H' fp st s' => k p _ (by rw [due_ok hd hb]; exact .tup fp st.dts) s'
      have k2 : ∀ i n, firstBad (partsOf z) 0 = some (i, n) → ∀ p H', H' p = some (.tup [.str "no", .int (i : Nat), .int (n : Nat)]) → Same H H' → Q (.ref p) H' := fun i n hb p H' fp s' => k p _ (by rw [due_bad hd hb]; exact .tup fp (.cons (.str _) (.cons (.int _) (.cons (.int _) .nil)))) s'
      have hzl := hz.len
      have hzn := hz.n
      refine ⟨_, rfl, rfl, _, _, rfl, rfl, by decide +kernel, by omega, by omega, fun p hp => ?_⟩
      have npq : p ≠ q := (ne_of_none fq hp).symm
      have hpl := hz.pl
      have hwd := hz.wd
      have hpo : partsOf z = (Txt.split z "; ").map fun p => Txt.split p " " := rfl
      generalize Txt.split z "; " = ps at hpl hwd hpo hzn ⊢
      refine ⟨p, rfl, ⟨_, SqL.of upd_same⟩, for_list (xs := ps.map V.str) (fun i σ H' => ∃ (b2 b3 : Option V) (xs : List V), σ = [some (.str z), some (.ref q), b2, b3] ∧ Same H H' ∧ H' p = some (.lst (ps.map V.str)) ∧ H' q = some (.lst xs) ∧ StG H' xs ((partsOf z).take i) ∧ firstBad (partsOf z) 0 = firstBad ((partsOf z).drop i) i)
        ⟨none, none, [], rfl, sq.then hp, upd_same, by rw [upd_ne npq.symm]; exact fq, by rw [List.take_zero]; exact .nil, rfl⟩ (fun i σ H' hi ⟨_, _, _, _, _, q, _⟩ => SqL.of q) ?_ ?_⟩
      · rintro i x σ H1 hx ⟨b2, b3, xs, rfl, s1, p1, q1, st1, hb1⟩
        obtain ⟨pt, hpt, ex⟩ : ∃ pt, ps[i]? = some pt ∧ x = .str pt := by
          rw [List.getElem?_map] at hx
          cases hq2 : ps[i]? with
          | none => rw [hq2] at hx; cases hx
          | some pt => rw [hq2] at hx; exact ⟨pt, rfl, (Option.some.inj hx).symm⟩
        subst ex
        have hi := (List.getElem?_eq_some_iff.mp hpt).1
        have hm := List.mem_of_getElem? hpt
        have hW := hwd pt hm
        have hpp : (partsOf z)[i]? = some (Txt.split pt " ") := by rw [hpo, List.getElem?_map, hpt]; rfl
        have := hpl pt hm
        have hwn := hW.n
        have hxl : xs.length = i := by
          have := st1.length
          rw [List.length_take, hpo, List.length_map] at this
          omega
        refine ⟨_, rfl, rfl, _, _, rfl, rfl, by decide +kernel, by omega, by omega, fun l hl => ?_⟩
        generalize Txt.split pt " " = ws at hW hpp hwn ⊢
        have s3 : Same H1 (upd H1 l (.lst (ws.map V.str))) := Same.new hl
        have f3 : (upd H1 l (.lst (ws.map V.str))) l = some (.lst (ws.map V.str)) := upd_same
        generalize upd H1 l (.lst (ws.map V.str)) = H3 at s3 f3 ⊢
        refine ⟨ws, l, rfl, f3, hW, fun n hwr H4 s4 => ?_, fun hwr p5 H5 hp5 f5 s5 => ?_⟩
        · have a4 := s3.trans s4
          have hbad := hb1.trans (bad_here hpp hwr)
          refine ⟨_, rfl, _, _, _, _, rfl, .int _, kit_ii12, _, rfl, iteC rfl ?_⟩
          refine ⟨_, rfl, q, xs, rfl, .inl (SqL.of (a4 _ _ q1)), _, rfl, (by show 3 ≤ sizeLine; decide), fun t ht => ?_⟩
          refine k2 i n hbad t _ ?_ ((s1.trans a4).then ht)
          rw [hxl]
          exact upd_same
        · have a5 := s3.trans s5
          refine ⟨_, rfl, _, _, _, _, rfl, .tup f5, kit_ti12, _, rfl, iteD rfl ?_⟩
          refine ⟨_, rfl, .inl ⟨rfl, _, SqL.of (a5 _ _ q1)⟩, _, rfl, q, _, _, rfl, rfl, a5 _ _ q1, by omega, ?_⟩
          have tq : ∀ a ys, H5 a = some (.tup ys) → (upd H5 q (.lst (xs ++ [.ref p5]))) a = some (.tup ys) := fun a ys e => by
            rw [upd_ne (ne_of e (a5 _ _ q1) (by intro z; cases z))]; exact e
          refine ⟨_, _, xs ++ [.ref p5], rfl, fun b o e => by rw [upd_ne (nq b o e)]; exact a5 _ _ (s1 _ _ e), by rw [upd_ne npq]; exact a5 _ _ p1, upd_same, ?_, hb1.trans (bad_step hpp hwr)⟩
          rw [List.take_add_one, hpp]
          exact (StG.snoc (st1.same fun a ys e => a5 _ _ e) f5 hwr).same tq
      · rintro σ H1 ⟨b2, b3, xs, rfl, s1, p1, q1, st1, hb1⟩
        rw [List.length_map] at st1 hb1
        have hpl2 : (partsOf z).length = ps.length := by rw [hpo, List.length_map]
        rw [← hpl2, List.take_length] at st1
        rw [← hpl2, List.drop_length] at hb1
        exact ⟨_, rfl, q, _, rfl, .inl ⟨SqL.of q1, fun y hy => k1 hb1 y xs _ upd_same (st1.same fun a ys e => Same.new hy _ _ e) (s1.then hy)⟩⟩
end
end Kx
set_option Elab.async false
set_option linter.all false
set_option maxRecDepth 100000
set_option maxHeartbeats 0
namespace Kx
open PySem PySem.Spec PyProof.Rows L2 Wd
section
variable {P : Program} {w : World} {K : PySem.W.Frag} {mg : Str → Option Value} {base : Heap} {aB : Addr}
noncomputable abbrev s_told : Stmt := top 34
theorem sc_told : FnScope ["_law_text", "_law_found", "e", "_law_strange"] ["_law_text"] (defScope s_told) := ⟨rfl, rfl, rfl, by decide +kernel, rfl, by decide +kernel, by decide +kernel⟩
structure TC (K : PySem.W.Frag) (mg : Str → Option Value) (CT CR : Addr) (bmT bmR : List Value) (c : Nat → Addr) : Prop where
  nT : mg "NoText" = some (.ref CT)
  nR : mg "RingError" = some (.ref CR)
  nV : mg "ValueError" = none
  n0 : mg "NoBand" = some (.ref (c 0))
  n1 : mg "NoPaper" = some (.ref (c 1))
  n2 : mg "NoRow" = some (.ref (c 2))
  n3 : mg "NoSlide" = some (.ref (c 3))
  n4 : mg "NoStep" = some (.ref (c 4))
  n5 : mg "NoSurface" = some (.ref (c 5))
  n6 : mg "NoThin" = some (.ref (c 6))
  n7 : mg "NoWay" = some (.ref (c 7))
  xT : XCl K CT bmT
  up : (Value.ref CT :: bmT).contains (.ref CR) = true
  ka : PySem.W.kitAny K (.ref CT) [.ref (c 0), .ref (c 1), .ref (c 2), .ref (c 3), .ref (c 4), .ref (c 5), .ref (c 6), .ref (c 7)] = some false
  kt : PySem.W.kitOne K (.ref CT) (.ref CT) = some true
  kv : PySem.W.kitOne K (.ref CT) (.type "ValueError") = some true
  ca : XCa K CT
  xs : PySem.W.findIn K (.ref CT) "step" = some none
  xw : PySem.W.findIn K (.ref CT) "word" = some none
theorem b_ValueError : bootBuiltins "ValueError" = some (.type "ValueError") := by first | rfl | decide +kernel | kernel_rfl
theorem vals_ref {a : Addr} {vs : List V} {ts : List Value} (h : ∀ us, Vals vs us → us = ts) : ∀ us, Vals (.ref a :: vs) us → us = .ref a :: ts := by
  intro us r
  cases r with
  | cons r1 r2 =>
    obtain rfl := h _ r2
    cases r1
    rfl
theorem c_told {CT CR : Addr} {bmT bmR : List Value} {c : Nat → Addr} (D : Df K mg "_law_told" s_told) (T : Bt K w mg aB) (C : TC K mg CT CR bmT bmR c) (xR : XCl K CR bmR) (F_read : FncX P w K mg base "read_steps" ["text"] 5 (spReadG CT)) : Fnc P w K mg base "_law_told" ["_law_text"] 6 spTold := by
  have sc := sc_told
  have cNoText := C.nT
  have cRingError := C.nR
  have TV := C.nV
  have cNoBand := C.n0
  have cNoPaper := C.n1
  have cNoRow := C.n2
  have cNoSlide := C.n3
  have cNoStep := C.n4
  have cNoSurface := C.n5
  have cNoThin := C.n6
  have cNoWay := C.n7
  refine D.ok sc (fun _ _ _ _ _ _ us hl => by obtain ⟨_, rfl⟩ := len1 hl; rfl) (fun vs H Q E h => ?_) (fun f cdv A outer s H vs Q E hr h => ?_)
  · obtain ⟨z, rfl, _⟩ := h
    rfl
  · obtain ⟨z, rfl, hz, k⟩ := h
    have l16 := line16
    have hu := hu_of hr
    refine ⟨_, (@pss_cons _ _ _ _ _ (@ps_set _ _ (1) _ _ _ _ sc.nd rfl (Or.inl rfl) pe_non (by rfl) (by first | exact .inl rfl | exact .inr rfl | assumption)) (@pss_cons _ _ _ _ _ (@ps_try _ _ _ _ (2) _ _ _ _ _ _ _ _ _ rfl rfl sc.nd rfl rfl rfl cRingError xR (fun _ => (@pse_set _ _ _ _ _ _ _ (1) sc.nd rfl (Or.inl rfl) (@pee_fn _ _ _ _ _ _ _ _ _ _ _ _ F_read hr (by decide) rfl (@pa_cons _ _ _ _ _ (pv 0) pa_nil (by rfl)) (by decide) (by rfl) (by rfl)) (by rfl) (by first | exact .inl rfl | exact .inr rfl | assumption))) (fun _ => (@pss_cons _ _ _ _ _ (@ps_set _ _ (3) _ _ _ _ sc.nd rfl (Or.inl rfl) (@pe_callB _ _ _ _ _ _ _ _ _ (@call_istK _ (K) rfl) (by rfl) T.isinstance b_isinstance (@pa_cons _ _ _ _ _ (pv 2) (@pa_cons _ _ _ _ _ (@pe_tup _ _ _ _ _ (@pa_c _ _ _ _ _ (@pe_glob _ _ (.ref _) _ _ rfl cNoBand rfl (by decide)) (@pa_c _ _ _ _ _ (@pe_glob _ _ (.ref _) _ _ rfl cNoPaper rfl (by decide)) (@pa_c _ _ _ _ _ (@pe_glob _ _ (.ref _) _ _ rfl cNoRow rfl (by decide)) (@pa_c _ _ _ _ _ (@pe_glob _ _ (.ref _) _ _ rfl cNoSlide rfl (by decide)) (@pa_c _ _ _ _ _ (@pe_glob _ _ (.ref _) _ _ rfl cNoStep rfl (by decide)) (@pa_c _ _ _ _ _ (@pe_glob _ _ (.ref _) _ _ rfl cNoSurface rfl (by decide)) (@pa_c _ _ _ _ _ (@pe_glob _ _ (.ref _) _ _ rfl cNoThin rfl (by decide)) (@pa_c _ _ _ _ _ (@pe_glob _ _ (.ref _) _ _ rfl cNoWay rfl (by decide)) pa_nil (by rfl)) (by rfl)) (by rfl)) (by rfl)) (by rfl)) (by rfl)) (by rfl)) (by rfl))) pa_nil (by rfl)) (by rfl)) (by decide) (by decide) (by rfl) (by rfl)) (by rfl) (by first | exact .inl rfl | exact .inr rfl | assumption)) (@pss_cons _ _ _ _ _ (@ps_set _ _ (1) _ _ _ _ sc.nd rfl (Or.inl rfl) pe_str (by rfl) (by first | exact .inl rfl | exact .inr rfl | assumption)) (@pss_one _ _ _ (@ps_if _ _ _ _ _ _ _ _ (@PW.pt _ _ _ (@pw_and _ _ _ _ _ _ _ (@pt_bl _ _ _ (@pe_callB _ _ _ _ _ _ _ _ _ (@call_isxK _ (K) rfl) (by rfl) T.isinstance b_isinstance (@pa_cons _ _ _ _ _ (pv 2) (@pa_cons _ _ _ _ _ (@pe_glob _ _ (.ref _) _ _ rfl cNoText rfl (by decide)) pa_nil (by rfl)) (by rfl)) (by decide) (by decide) (by rfl) (by rfl)) (fun _ => rfl)) (@pw_and _ _ _ _ _ _ _ (@pt_bl _ _ _ (@pe_callB _ _ _ _ _ _ _ _ _ (@call_isxK _ (K) rfl) (by rfl) T.isinstance b_isinstance (@pa_cons _ _ _ _ _ (pv 2) (@pa_cons _ _ _ _ _ (@pe_bltn _ _ (.ty "ValueError") _ _ rfl TV b_ValueError rfl (by decide) (by decide)) pa_nil (by rfl)) (by rfl)) (by decide) (by decide) (by rfl) (by rfl)) (fun _ => rfl)) (@pw_and1 _ _ _ _ (@pt_not _ _ _ _ (@pt_bl _ _ _ (pv 3) (fun _ => rfl))))))) (@pss_one _ _ _ (@ps_set _ _ (1) _ _ _ _ sc.nd rfl (Or.inl rfl) (@pe_tup _ _ _ _ _ (@pa_cons _ _ _ _ _ pe_str (@pa_cons _ _ _ _ _ (@pe_fxK _ (K) _ _ _ _ rfl (pv 2) rfl) (@pa_cons _ _ _ _ _ (@pe_fxK _ (K) _ _ _ _ rfl (pv 2) rfl) pa_nil (by rfl)) (by rfl)) (by rfl))) (by rfl) (by first | exact .inl rfl | exact .inr rfl | assumption))) pss_nil))))) (by decide)) (@pss_one _ _ _ (@ps_ret _ _ _ _ (pv 1))))), ?_⟩
    have fin : ∀ H' p (b2 b3 : Option V), Dt H' (.ref p) (dueD z) → Same H H' → Q (.ref p) H' := fun H' p _ _ d s' => k p H' d s'
    refine ⟨_, rfl, z, rfl, hz, fun hd p H' fp s' => ⟨_, rfl, k p H' (by rw [hd, due_dash]; exact .tup fp .nil) s'⟩, fun hd hb p xs H' fp st s' => ⟨_, rfl, k p H' (by rw [due_ok hd hb]; exact .tup fp st.dts) s'⟩, fun hd i n hb a dx H' fa fd s' => ?_⟩
    refine ⟨a, CT, some dx, bmT, rfl, fa, C.xT, C.up, ?_⟩
    refine ⟨_, rfl, (by show 8 ≤ sizeLine; decide), fun t ht => ?_⟩
    have fa := Same.new (o := .tup [.ref (c 0), .ref (c 1), .ref (c 2), .ref (c 3), .ref (c 4), .ref (c 5), .ref (c 6), .ref (c 7)]) ht _ _ fa
    have fd := Same.new (o := .tup [.ref (c 0), .ref (c 1), .ref (c 2), .ref (c 3), .ref (c 4), .ref (c 5), .ref (c 6), .ref (c 7)]) ht _ _ fd
    have s2 := s'.then (o := .tup [.ref (c 0), .ref (c 1), .ref (c 2), .ref (c 3), .ref (c 4), .ref (c 5), .ref (c 6), .ref (c 7)]) ht
    refine ⟨a, CT, false, dx, _, t, _, _, false, rfl, fa, fd, C.ca, upd_same, vals_ref (vals_ref (vals_ref (vals_ref (vals_ref (vals_ref (vals_ref (vals_ref fun us h => by cases h; rfl))))))), C.ka, ?_⟩
    generalize upd H' t _ = H2 at fa fd s2 ⊢
    refine ⟨_, rfl, a, CT, false, dx, _, _, _, true, rfl, fa, fd, C.ca, (fun u r => r), C.kt, _, rfl, iteC rfl ?_⟩
    refine ⟨_, rfl, a, CT, false, dx, _, _, _, true, rfl, fa, fd, C.ca, (fun u r => r), C.kv, _, rfl, iteC rfl ?_⟩
    refine ⟨_, rfl, _, rfl, iteC rfl ?_⟩
    refine ⟨_, rfl, a, CT, false, dx, _, _, rfl, fa, fd, C.ca.1, C.xs, rfl, _, rfl, a, CT, false, dx, _, _, rfl, fa, fd, C.ca.1, C.xw, rfl, (by show 3 ≤ sizeLine; decide), fun p hp => ⟨_, rfl, k p _ ?_ (s2.then hp)⟩⟩
    rw [due_bad hd hb]
    exact .tup upd_same (.cons (.str _) (.cons (.int _) (.cons (.int _) .nil)))
end
end Kx
set_option Elab.async false
set_option linter.all false
set_option maxRecDepth 100000
set_option maxHeartbeats 0
namespace Kx
open PySem PySem.Spec PyProof.Rows L2 Wd
section
variable {P : Program} {w : World} {K : PySem.W.Frag} {mg : Str → Option Value} {base : Heap} {aB : Addr}
theorem sign_at {q : Int} (h0 : 0 ≤ q) (h1 : q < 6) : ∃ c, atI (" ;0a-~" : Str).cps.toList q = some c := by
  obtain ⟨n, rfl⟩ := Int.eq_ofNat_of_zero_le h0
  have e : (" ;0a-~" : Str).cps.toList.length = 6 := by decide +kernel
  have hn : n < (" ;0a-~" : Str).cps.toList.length := by omega
  exact ⟨_, atI_get (List.getElem?_eq_getElem hn)⟩
noncomputable abbrev s_good : Stmt := top 35
theorem sc_good : FnScope ["_law_feed_here", "_law_some", "_law_found", "_law_k"] ["_law_feed_here"] (defScope s_good) := ⟨rfl, rfl, rfl, by decide +kernel, rfl, by decide +kernel, by decide +kernel⟩
theorem c_good (D : Df K mg "_law_good" s_good) (T : Bt K w mg aB) (F_draw : Fnc P w K mg base "_law_draw" ["_law_feed_here", "_law_many"] 1 spDraw) : Fnc P w K mg base "_law_good" ["_law_feed_here"] 2 spGood := by
  have sc := sc_good
  refine D.ok sc (fun _ _ _ _ _ _ us hl => by obtain ⟨_, rfl⟩ := len1 hl; rfl) (fun vs H Q E h => ?_) (fun f cdv A outer s H vs Q E hr h => ?_)
  · obtain ⟨d, rfl, _⟩ := h
    rfl
  · obtain ⟨d, rfl, F, k⟩ := h
    have l16 := line16
    refine ⟨_, (@pss_cons _ _ _ _ _ (@ps_set _ _ (1) _ _ _ _ sc.nd rfl (Or.inl rfl) (@pe_lst _ _ _ _ (@pa_lits _ _ ([.str "out 0", .str "out 12", .str "in 3 a", .str "in 0 F", .str "ring 0 abAB 3", .str "ring 7 a 0", .str "ring 100 ffeE 9999", .str "out 9999"]) (by kernel_rfl))) (by rfl) (by first | exact .inl rfl | exact .inr rfl | assumption)) (@pss_cons _ _ _ _ _ (@ps_set _ _ (2) _ _ _ _ sc.nd rfl (Or.inl rfl) (@pe_ix _ _ _ _ _ _ _ ix_list (pv 1) (@pe_fn _ _ _ _ _ _ _ _ _ _ _ F_draw hr (by decide) rfl (@pa_cons _ _ _ _ _ (pv 0) (@pa_cons _ _ _ _ _ pe_int pa_nil (by rfl)) (by rfl)) (by decide) (by rfl) (by rfl)) (fun _ _ => rfl)) (by rfl) (by first | exact .inl rfl | exact .inr rfl | assumption)) (@pss_cons _ _ _ _ _ (@ps_for _ _ _ _ _ _ _ _ PassesOwn.never rfl (@pi_range1 _ _ _ _ _ _ rfl T.range (@pa_cons _ _ _ _ _ (@pe_fn _ _ _ _ _ _ _ _ _ _ _ F_draw hr (by decide) rfl (@pa_cons _ _ _ _ _ (pv 0) (@pa_cons _ _ _ _ _ pe_int pa_nil (by rfl)) (by rfl)) (by decide) (by rfl) (by rfl)) pa_nil (by rfl)) (by rfl)) (@pg_name _ _ (3) _ sc.nd rfl (Or.inl rfl) (by first | exact .inl rfl | exact .inr rfl | assumption)) (@pss_one _ _ _ (@ps_set _ _ (2) _ _ _ _ sc.nd rfl (Or.inl rfl) (@pe_op _ _ _ _ _ _ _ _ op_add_str (@pe_op _ _ _ _ _ _ _ _ op_add_str (pv 2) pe_str) (@pe_ix _ _ _ _ _ _ _ ix_list (pv 1) (@pe_fn _ _ _ _ _ _ _ _ _ _ _ F_draw hr (by decide) rfl (@pa_cons _ _ _ _ _ (pv 0) (@pa_cons _ _ _ _ _ pe_int pa_nil (by rfl)) (by rfl)) (by decide) (by rfl) (by rfl)) (fun _ _ => rfl))) (by rfl) (by first | exact .inl rfl | exact .inr rfl | assumption))) (by intro _ ; rfl)) (@pss_one _ _ _ (@ps_ret _ _ _ _ (pv 2)))))), ?_⟩
    refine ⟨(by show 8 ≤ sizeLine; decide), fun l hl => ?_⟩
    have F0 : Fd (upd H l (.lst (menuG.map V.str))) d := F.new hl
    have nl : l ≠ d := F.ne hl
    have sb0 : SameB d H (upd H l (.lst (menuG.map V.str))) := (Same.new hl).b
    have f0 : (upd H l (.lst (menuG.map V.str))) l = some (.lst (menuG.map V.str)) := upd_same
    refine ⟨_, rfl, _, rfl, d, _, rfl, F0, by decide, by decide, fun q H1 q0 q1 F1 sb1 => ?_⟩
    obtain ⟨z0, hz0, hm0⟩ := menu_at (ts := menuG) q0 q1
    have h0 := menuG_len z0 hm0
    refine ⟨l, _, _, _, rfl, rfl, SqL.of (sb1 _ _ nl f0), hz0, ?_⟩
    refine ⟨_, rfl, d, _, rfl, F1, by decide, by decide, fun n H2 n0 n1 F2 sb2 => ⟨_, rfl, by omega, by omega, for_range (lo := 0) (n := n.toNat) (fun i σ H' => ∃ (b3 : Option V) (y : Str), σ = [some (.ref d), some (.ref l), some (.str y), b3] ∧ y.length ≤ 18 + 20 * i ∧ H' l = some (.lst (menuG.map V.str)) ∧ Fd H' d ∧ SameB d H H') ⟨none, z0, rfl, h0, sb2 _ _ nl (sb1 _ _ nl f0), F2, (sb0.trans sb1).trans sb2⟩ ?_ ?_⟩⟩
    · rintro i σ H3 hi ⟨b3, y, rfl, hy, f3, F3, sb3⟩
      have e2 : ("; " : Str).length = 2 := by decide +kernel
      refine ⟨_, rfl, _, _, rfl, rfl, (by rw [e2]; omega), _, rfl, _, rfl, d, _, rfl, F3, by decide, by decide, fun q2 H4 q20 q21 F4 sb4 => ?_⟩
      obtain ⟨z1, hz1, hm1⟩ := menu_at (ts := menuG) q20 q21
      have h1 := menuG_len z1 hm1
      have e3 : (y ++ ("; " : Str)).length = y.length + 2 := by rw [Str.length_append, e2]
      refine ⟨l, _, _, _, rfl, rfl, SqL.of (sb4 _ _ nl f3), hz1, _, _, rfl, rfl, (by rw [e3]; omega), ⟨_, _, rfl, ?_, sb4 _ _ nl f3, F4, sb3.trans sb4⟩⟩
      rw [Str.length_append, e3]
      omega
    · rintro σ H3 ⟨b3, y, rfl, hy, f3, F3, sb3⟩
      exact ⟨_, rfl, k y _ (by omega) F3 sb3⟩
noncomputable abbrev s_spoilt : Stmt := top 36
theorem sc_spoilt : FnScope ["_law_feed_here", "_law_text", "_law_words", "_law_at", "_law_some", "_law_word", "_law_way", "_law_place"] ["_law_feed_here", "_law_text"] (defScope s_spoilt) := ⟨rfl, rfl, rfl, by decide +kernel, rfl, by decide +kernel, by decide +kernel⟩
theorem c_spoilt (D : Df K mg "_law_spoilt" s_spoilt) (T : Bt K w mg aB) (F_draw : Fnc P w K mg base "_law_draw" ["_law_feed_here", "_law_many"] 1 spDraw) : Fnc P w K mg base "_law_spoilt" ["_law_feed_here", "_law_text"] 2 spSpoilt := by
  have sc := sc_spoilt
  refine D.ok sc (fun _ _ _ _ _ _ us hl => by obtain ⟨_, _, rfl⟩ := len2 hl; rfl) (fun vs H Q E h => ?_) (fun f cdv A outer s H vs Q E hr h => ?_)
  · obtain ⟨d, z, rfl, _⟩ := h
    rfl
  · obtain ⟨d, z, rfl, F, hz, k⟩ := h
    have l16 := line16
    refine ⟨_, (@pss_cons _ _ _ _ _ (@ps_set _ _ (2) _ _ _ _ sc.nd rfl (Or.inl rfl) (@pe_bm _ _ _ _ _ _ _ _ _ _ _ _ PySem.F.plainAttrs_str PySem.F.slot_str_split PySem.F.type_str_split mt_split (pv 1) (@pa_cons _ _ _ _ _ pe_str pa_nil (by rfl)) (by rfl) (by rfl) (by rfl) (by rfl) (by rfl)) (by rfl) (by first | exact .inl rfl | exact .inr rfl | assumption)) (@pss_cons _ _ _ _ _ (@ps_set _ _ (3) _ _ _ _ sc.nd rfl (Or.inl rfl) (@pe_fn _ _ _ _ _ _ _ _ _ _ _ F_draw hr (by decide) rfl (@pa_cons _ _ _ _ _ (pv 0) (@pa_cons _ _ _ _ _ (@pe_callB _ _ _ _ _ _ _ _ _ call_len_seq (by rfl) T.len PySem.boot_len (@pa_cons _ _ _ _ _ (pv 2) pa_nil (by rfl)) (by decide) (by decide) (by rfl) (by rfl)) pa_nil (by rfl)) (by rfl)) (by decide) (by rfl) (by rfl)) (by rfl) (by first | exact .inl rfl | exact .inr rfl | assumption)) (@pss_cons _ _ _ _ _ (@ps_set _ _ (4) _ _ _ _ sc.nd rfl (Or.inl rfl) (@pe_lst _ _ _ _ (@pa_lits _ _ ([.str "", .str "-", .str "out", .str "in", .str "ring", .str "out;", .str "a", .str "a;", .str "g", .str "aG", .str "01", .str "00", .str "10000", .str "+1", .str "1_0", .str "0;", .str "1 "]) (by kernel_rfl))) (by rfl) (by first | exact .inl rfl | exact .inr rfl | assumption)) (@pss_cons _ _ _ _ _ (@ps_set _ _ (5) _ _ _ _ sc.nd rfl (Or.inl rfl) (@pe_ix _ _ _ _ _ _ _ ix_list (pv 4) (@pe_fn _ _ _ _ _ _ _ _ _ _ _ F_draw hr (by decide) rfl (@pa_cons _ _ _ _ _ (pv 0) (@pa_cons _ _ _ _ _ pe_int pa_nil (by rfl)) (by rfl)) (by decide) (by rfl) (by rfl)) (fun _ _ => rfl)) (by rfl) (by first | exact .inl rfl | exact .inr rfl | assumption)) (@pss_cons _ _ _ _ _ (@ps_set _ _ (6) _ _ _ _ sc.nd rfl (Or.inl rfl) (@pe_fn _ _ _ _ _ _ _ _ _ _ _ F_draw hr (by decide) rfl (@pa_cons _ _ _ _ _ (pv 0) (@pa_cons _ _ _ _ _ pe_int pa_nil (by rfl)) (by rfl)) (by decide) (by rfl) (by rfl)) (by rfl) (by first | exact .inl rfl | exact .inr rfl | assumption)) (@pss_cons _ _ _ _ _ (@ps_set _ _ (7) _ _ _ _ sc.nd rfl (Or.inl rfl) (@pe_fn _ _ _ _ _ _ _ _ _ _ _ F_draw hr (by decide) rfl (@pa_cons _ _ _ _ _ (pv 0) (@pa_cons _ _ _ _ _ (@pe_op _ _ _ _ _ _ _ _ op_add (@pe_callB _ _ _ _ _ _ _ _ _ call_len_str (by rfl) T.len PySem.boot_len (@pa_cons _ _ _ _ _ (pv 1) pa_nil (by rfl)) (by decide) (by decide) (by rfl) (by rfl)) pe_int) pa_nil (by rfl)) (by rfl)) (by decide) (by rfl) (by rfl)) (by rfl) (by first | exact .inl rfl | exact .inr rfl | assumption)) (@pss_cons _ _ _ _ _ (@ps_if _ _ _ _ _ _ _ _ (@pt_cmpR _ _ _ _ _ _ _ _ op_eq (pv 6) pe_int (nomark _)) (@pss_one _ _ _ (@ps_set _ _ (2) _ _ _ _ sc.nd rfl (Or.inl rfl) (@pe_op _ _ _ _ _ _ _ _ op_cat (@pe_slice _ _ _ _ _ _ _ _ _ _ sl_list (pv 2) po_none (@po_some _ _ _ (pv 3))) (@pe_slice _ _ _ _ _ _ _ _ _ _ sl_list (pv 2) (@po_some _ _ _ (@pe_op _ _ _ _ _ _ _ _ op_add (pv 3) pe_int)) po_none)) (by rfl) (by first | exact .inl rfl | exact .inr rfl | assumption))) pss_nil) (@pss_cons _ _ _ _ _ (@ps_if _ _ _ _ _ _ _ _ (@pt_cmpR _ _ _ _ _ _ _ _ op_eq (pv 6) pe_int (nomark _)) (@pss_one _ _ _ (@ps_set _ _ (2) _ _ _ _ sc.nd rfl (Or.inl rfl) (@pe_op _ _ _ _ _ _ _ _ op_cat (@pe_op _ _ _ _ _ _ _ _ op_cat (@pe_slice _ _ _ _ _ _ _ _ _ _ sl_list (pv 2) po_none (@po_some _ _ _ (pv 3))) (@pe_slice _ _ _ _ _ _ _ _ _ _ sl_list (pv 2) (@po_some _ _ _ (pv 3)) (@po_some _ _ _ (@pe_op _ _ _ _ _ _ _ _ op_add (pv 3) pe_int)))) (@pe_slice _ _ _ _ _ _ _ _ _ _ sl_list (pv 2) (@po_some _ _ _ (pv 3)) po_none)) (by rfl) (by first | exact .inl rfl | exact .inr rfl | assumption))) pss_nil) (@pss_cons _ _ _ _ _ (@ps_if _ _ _ _ _ _ _ _ (@pt_cmpR _ _ _ _ _ _ _ _ op_eq (pv 6) pe_int (nomark _)) (@pss_one _ _ _ (@ps_set _ _ (2) _ _ _ _ sc.nd rfl (Or.inl rfl) (@pe_op _ _ _ _ _ _ _ _ op_cat (@pe_op _ _ _ _ _ _ _ _ op_cat (@pe_slice _ _ _ _ _ _ _ _ _ _ sl_list (pv 2) po_none (@po_some _ _ _ (pv 3))) (@pe_lst _ _ _ _ (@pa_cons _ _ _ _ _ (pv 5) pa_nil (by rfl)))) (@pe_slice _ _ _ _ _ _ _ _ _ _ sl_list (pv 2) (@po_some _ _ _ (@pe_op _ _ _ _ _ _ _ _ op_add (pv 3) pe_int)) po_none)) (by rfl) (by first | exact .inl rfl | exact .inr rfl | assumption))) pss_nil) (@pss_cons _ _ _ _ _ (@ps_if _ _ _ _ _ _ _ _ (@pt_cmpR _ _ _ _ _ _ _ _ op_eq (pv 6) pe_int (nomark _)) (@pss_one _ _ _ (@ps_set _ _ (2) _ _ _ _ sc.nd rfl (Or.inl rfl) (@pe_op _ _ _ _ _ _ _ _ op_cat (@pe_op _ _ _ _ _ _ _ _ op_cat (@pe_slice _ _ _ _ _ _ _ _ _ _ sl_list (pv 2) po_none (@po_some _ _ _ (pv 3))) (@pe_lst _ _ _ _ (@pa_cons _ _ _ _ _ (pv 5) pa_nil (by rfl)))) (@pe_slice _ _ _ _ _ _ _ _ _ _ sl_list (pv 2) (@po_some _ _ _ (pv 3)) po_none)) (by rfl) (by first | exact .inl rfl | exact .inr rfl | assumption))) pss_nil) (@pss_cons _ _ _ _ _ (@ps_if _ _ _ _ _ _ _ _ (@pt_cmpR _ _ _ _ _ _ _ _ op_eq (pv 6) pe_int (nomark _)) (@pss_one _ _ _ (@ps_ret _ _ _ _ (@pe_op _ _ _ _ _ _ _ _ op_add_str (@pe_op _ _ _ _ _ _ _ _ op_add_str (@pe_slice _ _ _ _ _ _ _ _ _ _ sl_str (pv 1) po_none (@po_some _ _ _ (pv 7))) (@pe_ix _ _ _ _ _ _ _ ix_str pe_str (@pe_fn _ _ _ _ _ _ _ _ _ _ _ F_draw hr (by decide) rfl (@pa_cons _ _ _ _ _ (pv 0) (@pa_cons _ _ _ _ _ pe_int pa_nil (by rfl)) (by rfl)) (by decide) (by rfl) (by rfl)) (fun _ _ => rfl))) (@pe_slice _ _ _ _ _ _ _ _ _ _ sl_str (pv 1) (@po_some _ _ _ (pv 7)) po_none)))) pss_nil) (@pss_cons _ _ _ _ _ (@ps_if _ _ _ _ _ _ _ _ (@pt_cmpR _ _ _ _ _ _ _ _ op_eq (pv 6) pe_int (nomark _)) (@pss_one _ _ _ (@ps_ret _ _ _ _ (@pe_op _ _ _ _ _ _ _ _ op_add_str (@pe_slice _ _ _ _ _ _ _ _ _ _ sl_str (pv 1) po_none (@po_some _ _ _ (pv 7))) (@pe_slice _ _ _ _ _ _ _ _ _ _ sl_str (pv 1) (@po_some _ _ _ (@pe_op _ _ _ _ _ _ _ _ op_add (pv 7) pe_int)) po_none)))) pss_nil) (@pss_one _ _ _ (@ps_ret _ _ _ _ (@pe_bm _ _ _ _ _ _ _ _ _ _ _ _ PySem.F.plainAttrs_str PySem.F.slot_str_join PySem.F.type_str_join mt_join pe_str (@pa_cons _ _ _ _ _ (pv 2) pa_nil (by rfl)) (by rfl) (by rfl) (by rfl) (by rfl) (by rfl)))))))))))))))), ?_⟩
    have hsl := split_le z " "
    have hsp := split_pos z " "
    have hwt := spl_wt z
    refine ⟨_, rfl, rfl, _, _, rfl, rfl, by decide +kernel, by omega, by omega, fun l hl => ?_⟩
    have cv : Cv (z.length + 1) ((Txt.split z " ").map V.str) := ⟨_, rfl, hwt⟩
    have hln : ((Txt.split z " ").map V.str).length = (Txt.split z " ").length := List.length_map _
    generalize (Txt.split z " ").map V.str = xs at cv hln ⊢
    have F0 : Fd (upd H l (.lst xs)) d := F.new hl
    have nl : l ≠ d := F.ne hl
    have sb0 : SameB d H (upd H l (.lst xs)) := (Same.new hl).b
    have f0 : (upd H l (.lst xs)) l = some (.lst xs) := upd_same
    generalize upd H l (.lst xs) = H0 at F0 sb0 f0 ⊢
    refine ⟨_, rfl, _, rfl, l, _, rfl, .inl (SqL.of f0), d, _, rfl, F0, by omega, by omega, fun at_ H1 a0 a1 F1 sb1 => ?_⟩
    have f1 := sb1 _ _ nl f0
    refine ⟨(by show 17 ≤ sizeLine; decide), fun m hm => ?_⟩
    have F2 : Fd (upd H1 m (.lst (menuS.map V.str))) d := F1.new hm
    have nm : m ≠ d := F1.ne hm
    have sb2 : SameB d H1 (upd H1 m (.lst (menuS.map V.str))) := (Same.new hm).b
    have f2 : (upd H1 m (.lst (menuS.map V.str))) m = some (.lst (menuS.map V.str)) := upd_same
    refine ⟨_, rfl, _, rfl, d, _, rfl, F2, by decide, by decide, fun q H3 q0 q1 F3 sb3 => ?_⟩
    obtain ⟨wd, hwd, hmw⟩ := menu_at (ts := menuS) q0 q1
    have hw5 := menuS_len wd hmw
    refine ⟨m, _, _, _, rfl, rfl, SqL.of (sb3 _ _ nm f2), hwd, ?_⟩
    have f3 := sb3 _ _ nl (sb2 _ _ nl f1)
    refine ⟨_, rfl, d, _, rfl, F3, by decide, by decide, fun way H4 w0 w1 F4 sb4 => ?_⟩
    have f4 := sb4 _ _ nl f3
    refine ⟨_, rfl, _, rfl, _, rfl, (by omega), _, _, rfl, rfl, d, _, rfl, F4, by omega, by omega, fun pl H5 p0 p1 F5 sb5 => ?_⟩
    have f5 := sb5 _ _ nl f4
    have sb := ((((sb0.trans sb1).trans sb2).trans sb3).trans sb4).trans sb5
    have hs1 := fun lo hi => Txt.slice_le z lo hi
    have hxl := cv.len
    have jn : ∀ (p : Addr) (ys : List V) (H' : Hp), H' p = some (.lst ys) → Cv (3 * z.length + 20) ys → Fd H' d → SameB d H H' → ∃ (u : Str) (q : Addr) (ws : List Str), V.str (" " : Str) = .str u ∧ [V.ref p] = [.ref q] ∧ SqL K H' q (ws.map V.str) ∧ (ws.map (·.length)).sum + ws.length * u.length ≤ 16777216 ∧ Q (.str (Txt.join u ws)) H' := fun p ys H' hp hc F' s' => by
      obtain ⟨ws, rfl, hw⟩ := hc
      refine ⟨" ", p, ws, rfl, rfl, SqL.of hp, ?_, k _ _ (Nat.le_trans (join_le ws) hw) F' s'⟩
      have e1 : (" " : Str).length = 1 := by decide +kernel
      rw [e1, Nat.mul_one]
      unfold WT at hw
      omega
    have hw : way = 0 ∨ way = 1 ∨ way = 2 ∨ way = 3 ∨ way = 4 ∨ way = 5 := by omega
    rcases hw with rfl | rfl | rfl | rfl | rfl | rfl
    · refine ⟨_, rfl, rfl, _, rfl, iteC (by decide) ⟨_, rfl, _, rfl, _, rfl, l, xs, rfl, SqL.of f5, fun p1 hp1 => ?_⟩⟩
      have s1 : Same H5 (upd H5 p1 (.lst (cutV xs none (some at_)))) := Same.new hp1
      have t1 : Same H5 (upd H5 p1 (.lst (cutV xs none (some at_)))) := Same.new hp1
      have g1 : (upd H5 p1 (.lst (cutV xs none (some at_)))) p1 = some (.lst (cutV xs none (some at_))) := upd_same
      have c1 : Cv _ (cutV xs none (some at_)) := cv.cut _ _
      generalize upd H5 p1 (.lst (cutV xs none (some at_))) = G1 at s1 t1 g1 ⊢
      refine ⟨_, rfl, _, rfl, _, _, rfl, rfl, _, rfl, l, xs, rfl, SqL.of (s1 _ _ f5), fun p2 hp2 => ?_⟩
      have s2 : Same H5 (upd G1 p2 (.lst (cutV xs (some (at_ + 1)) none))) := s1.then hp2
      have t2 : Same G1 (upd G1 p2 (.lst (cutV xs (some (at_ + 1)) none))) := Same.new hp2
      have g2 : (upd G1 p2 (.lst (cutV xs (some (at_ + 1)) none))) p2 = some (.lst (cutV xs (some (at_ + 1)) none)) := upd_same
      have c2 : Cv _ (cutV xs (some (at_ + 1)) none) := cv.cut _ _
      generalize upd G1 p2 (.lst (cutV xs (some (at_ + 1)) none)) = G2 at s2 t2 g2 ⊢
      refine ⟨p1, p2, _, _, rfl, rfl, t2 _ _ g1, g2, (by have := c1.len; have := c2.len; omega), fun p3 hp3 => ?_⟩
      have s3 : Same H5 (upd G2 p3 (.lst ((cutV xs none (some at_)) ++ cutV xs (some (at_ + 1)) none))) := s2.then hp3
      have g3 : (upd G2 p3 (.lst ((cutV xs none (some at_)) ++ cutV xs (some (at_ + 1)) none))) p3 = some (.lst ((cutV xs none (some at_)) ++ cutV xs (some (at_ + 1)) none)) := upd_same
      have c3 : Cv _ ((cutV xs none (some at_)) ++ cutV xs (some (at_ + 1)) none) := c1.app c2
      generalize upd G2 p3 (.lst ((cutV xs none (some at_)) ++ cutV xs (some (at_ + 1)) none)) = G3 at s3 g3 ⊢
      refine ⟨_, rfl, rfl, _, rfl, iteD (by decide) ⟨_, rfl, rfl, _, rfl, iteD (by decide) ⟨_, rfl, rfl, _, rfl, iteD (by decide) ⟨_, rfl, rfl, _, rfl, iteD (by decide) ⟨_, rfl, rfl, _, rfl, iteD (by decide) ⟨rfl, _, rfl, jn p3 _ _ g3 ?_ (F5.same s3) (sb.trans s3.b)⟩⟩⟩⟩⟩⟩
      obtain ⟨ws, e, hws⟩ := c3
      exact ⟨ws, e, by omega⟩
    · refine ⟨_, rfl, rfl, _, rfl, iteD (by decide) ⟨_, rfl, rfl, _, rfl, iteC (by decide) ⟨_, rfl, _, rfl, _, rfl, l, xs, rfl, SqL.of f5, fun p1 hp1 => ?_⟩⟩⟩
      have s1 : Same H5 (upd H5 p1 (.lst (cutV xs none (some at_)))) := Same.new hp1
      have t1 : Same H5 (upd H5 p1 (.lst (cutV xs none (some at_)))) := Same.new hp1
      have g1 : (upd H5 p1 (.lst (cutV xs none (some at_)))) p1 = some (.lst (cutV xs none (some at_))) := upd_same
      have c1 : Cv _ (cutV xs none (some at_)) := cv.cut _ _
      generalize upd H5 p1 (.lst (cutV xs none (some at_))) = G1 at s1 t1 g1 ⊢
      refine ⟨_, rfl, _, rfl, _, rfl, _, rfl, _, _, rfl, rfl, _, rfl, l, xs, rfl, SqL.of (s1 _ _ f5), fun p2 hp2 => ?_⟩
      have s2 : Same H5 (upd G1 p2 (.lst (cutV xs (some at_) (some (at_ + 1))))) := s1.then hp2
      have t2 : Same G1 (upd G1 p2 (.lst (cutV xs (some at_) (some (at_ + 1))))) := Same.new hp2
      have g2 : (upd G1 p2 (.lst (cutV xs (some at_) (some (at_ + 1))))) p2 = some (.lst (cutV xs (some at_) (some (at_ + 1)))) := upd_same
      have c2 : Cv _ (cutV xs (some at_) (some (at_ + 1))) := cv.cut _ _
      generalize upd G1 p2 (.lst (cutV xs (some at_) (some (at_ + 1)))) = G2 at s2 t2 g2 ⊢
      refine ⟨p1, p2, _, _, rfl, rfl, t2 _ _ g1, g2, (by have := c1.len; have := c2.len; omega), fun p3 hp3 => ?_⟩
      have s3 : Same H5 (upd G2 p3 (.lst ((cutV xs none (some at_)) ++ cutV xs (some at_) (some (at_ + 1))))) := s2.then hp3
      have g3 : (upd G2 p3 (.lst ((cutV xs none (some at_)) ++ cutV xs (some at_) (some (at_ + 1))))) p3 = some (.lst ((cutV xs none (some at_)) ++ cutV xs (some at_) (some (at_ + 1)))) := upd_same
      have c3 : Cv _ ((cutV xs none (some at_)) ++ cutV xs (some at_) (some (at_ + 1))) := c1.app c2
      generalize upd G2 p3 (.lst ((cutV xs none (some at_)) ++ cutV xs (some at_) (some (at_ + 1)))) = G3 at s3 g3 ⊢
      refine ⟨_, rfl, _, rfl, _, rfl, l, xs, rfl, SqL.of (s3 _ _ f5), fun p4 hp4 => ?_⟩
      have s4 : Same H5 (upd G3 p4 (.lst (cutV xs (some at_) none))) := s3.then hp4
      have t4 : Same G3 (upd G3 p4 (.lst (cutV xs (some at_) none))) := Same.new hp4
      have g4 : (upd G3 p4 (.lst (cutV xs (some at_) none))) p4 = some (.lst (cutV xs (some at_) none)) := upd_same
      have c4 : Cv _ (cutV xs (some at_) none) := cv.cut _ _
      generalize upd G3 p4 (.lst (cutV xs (some at_) none)) = G4 at s4 t4 g4 ⊢
      refine ⟨p3, p4, _, _, rfl, rfl, t4 _ _ g3, g4, (by have := c3.len; have := c4.len; omega), fun p5 hp5 => ?_⟩
      have s5 : Same H5 (upd G4 p5 (.lst (((cutV xs none (some at_)) ++ cutV xs (some at_) (some (at_ + 1))) ++ cutV xs (some at_) none))) := s4.then hp5
      have g5 : (upd G4 p5 (.lst (((cutV xs none (some at_)) ++ cutV xs (some at_) (some (at_ + 1))) ++ cutV xs (some at_) none))) p5 = some (.lst (((cutV xs none (some at_)) ++ cutV xs (some at_) (some (at_ + 1))) ++ cutV xs (some at_) none)) := upd_same
      have c5 : Cv _ (((cutV xs none (some at_)) ++ cutV xs (some at_) (some (at_ + 1))) ++ cutV xs (some at_) none) := c3.app c4
      generalize upd G4 p5 (.lst (((cutV xs none (some at_)) ++ cutV xs (some at_) (some (at_ + 1))) ++ cutV xs (some at_) none)) = G5 at s5 g5 ⊢
      refine ⟨_, rfl, rfl, _, rfl, iteD (by decide) ⟨_, rfl, rfl, _, rfl, iteD (by decide) ⟨_, rfl, rfl, _, rfl, iteD (by decide) ⟨_, rfl, rfl, _, rfl, iteD (by decide) ⟨rfl, _, rfl, jn p5 _ _ g5 ?_ (F5.same s5) (sb.trans s5.b)⟩⟩⟩⟩⟩
      obtain ⟨ws, e, hws⟩ := c5
      exact ⟨ws, e, by omega⟩
    · refine ⟨_, rfl, rfl, _, rfl, iteD (by decide) ⟨_, rfl, rfl, _, rfl, iteD (by decide) ⟨_, rfl, rfl, _, rfl, iteC (by decide) ⟨_, rfl, _, rfl, _, rfl, l, xs, rfl, SqL.of f5, fun p1 hp1 => ?_⟩⟩⟩⟩
      have s1 : Same H5 (upd H5 p1 (.lst (cutV xs none (some at_)))) := Same.new hp1
      have t1 : Same H5 (upd H5 p1 (.lst (cutV xs none (some at_)))) := Same.new hp1
      have g1 : (upd H5 p1 (.lst (cutV xs none (some at_)))) p1 = some (.lst (cutV xs none (some at_))) := upd_same
      have c1 : Cv _ (cutV xs none (some at_)) := cv.cut _ _
      generalize upd H5 p1 (.lst (cutV xs none (some at_))) = G1 at s1 t1 g1 ⊢
      refine ⟨_, rfl, (by show 1 ≤ sizeLine; decide), fun p2 hp2 => ?_⟩
      have s2 : Same H5 (upd G1 p2 (.lst ([V.str wd]))) := s1.then hp2
      have t2 : Same G1 (upd G1 p2 (.lst ([V.str wd]))) := Same.new hp2
      have g2 : (upd G1 p2 (.lst ([V.str wd]))) p2 = some (.lst ([V.str wd])) := upd_same
      have c2 : Cv _ ([V.str wd]) := Cv.one hw5
      generalize upd G1 p2 (.lst ([V.str wd])) = G2 at s2 t2 g2 ⊢
      refine ⟨p1, p2, _, _, rfl, rfl, t2 _ _ g1, g2, (by have := c1.len; have := c2.len; omega), fun p3 hp3 => ?_⟩
      have s3 : Same H5 (upd G2 p3 (.lst ((cutV xs none (some at_)) ++ [V.str wd]))) := s2.then hp3
      have g3 : (upd G2 p3 (.lst ((cutV xs none (some at_)) ++ [V.str wd]))) p3 = some (.lst ((cutV xs none (some at_)) ++ [V.str wd])) := upd_same
      have c3 : Cv _ ((cutV xs none (some at_)) ++ [V.str wd]) := c1.app c2
      generalize upd G2 p3 (.lst ((cutV xs none (some at_)) ++ [V.str wd])) = G3 at s3 g3 ⊢
      refine ⟨_, rfl, _, rfl, _, _, rfl, rfl, _, rfl, l, xs, rfl, SqL.of (s3 _ _ f5), fun p4 hp4 => ?_⟩
      have s4 : Same H5 (upd G3 p4 (.lst (cutV xs (some (at_ + 1)) none))) := s3.then hp4
      have t4 : Same G3 (upd G3 p4 (.lst (cutV xs (some (at_ + 1)) none))) := Same.new hp4
      have g4 : (upd G3 p4 (.lst (cutV xs (some (at_ + 1)) none))) p4 = some (.lst (cutV xs (some (at_ + 1)) none)) := upd_same
      have c4 : Cv _ (cutV xs (some (at_ + 1)) none) := cv.cut _ _
      generalize upd G3 p4 (.lst (cutV xs (some (at_ + 1)) none)) = G4 at s4 t4 g4 ⊢
      refine ⟨p3, p4, _, _, rfl, rfl, t4 _ _ g3, g4, (by have := c3.len; have := c4.len; omega), fun p5 hp5 => ?_⟩
      have s5 : Same H5 (upd G4 p5 (.lst (((cutV xs none (some at_)) ++ [V.str wd]) ++ cutV xs (some (at_ + 1)) none))) := s4.then hp5
      have g5 : (upd G4 p5 (.lst (((cutV xs none (some at_)) ++ [V.str wd]) ++ cutV xs (some (at_ + 1)) none))) p5 = some (.lst (((cutV xs none (some at_)) ++ [V.str wd]) ++ cutV xs (some (at_ + 1)) none)) := upd_same
      have c5 : Cv _ (((cutV xs none (some at_)) ++ [V.str wd]) ++ cutV xs (some (at_ + 1)) none) := c3.app c4
      generalize upd G4 p5 (.lst (((cutV xs none (some at_)) ++ [V.str wd]) ++ cutV xs (some (at_ + 1)) none)) = G5 at s5 g5 ⊢
      refine ⟨_, rfl, rfl, _, rfl, iteD (by decide) ⟨_, rfl, rfl, _, rfl, iteD (by decide) ⟨_, rfl, rfl, _, rfl, iteD (by decide) ⟨rfl, _, rfl, jn p5 _ _ g5 ?_ (F5.same s5) (sb.trans s5.b)⟩⟩⟩⟩
      obtain ⟨ws, e, hws⟩ := c5
      exact ⟨ws, e, by omega⟩
    · refine ⟨_, rfl, rfl, _, rfl, iteD (by decide) ⟨_, rfl, rfl, _, rfl, iteD (by decide) ⟨_, rfl, rfl, _, rfl, iteD (by decide) ⟨_, rfl, rfl, _, rfl, iteC (by decide) ⟨_, rfl, _, rfl, _, rfl, l, xs, rfl, SqL.of f5, fun p1 hp1 => ?_⟩⟩⟩⟩⟩
      have s1 : Same H5 (upd H5 p1 (.lst (cutV xs none (some at_)))) := Same.new hp1
      have t1 : Same H5 (upd H5 p1 (.lst (cutV xs none (some at_)))) := Same.new hp1
      have g1 : (upd H5 p1 (.lst (cutV xs none (some at_)))) p1 = some (.lst (cutV xs none (some at_))) := upd_same
      have c1 : Cv _ (cutV xs none (some at_)) := cv.cut _ _
      generalize upd H5 p1 (.lst (cutV xs none (some at_))) = G1 at s1 t1 g1 ⊢
      refine ⟨_, rfl, (by show 1 ≤ sizeLine; decide), fun p2 hp2 => ?_⟩
      have s2 : Same H5 (upd G1 p2 (.lst ([V.str wd]))) := s1.then hp2
      have t2 : Same G1 (upd G1 p2 (.lst ([V.str wd]))) := Same.new hp2
      have g2 : (upd G1 p2 (.lst ([V.str wd]))) p2 = some (.lst ([V.str wd])) := upd_same
      have c2 : Cv _ ([V.str wd]) := Cv.one hw5
      generalize upd G1 p2 (.lst ([V.str wd])) = G2 at s2 t2 g2 ⊢
      refine ⟨p1, p2, _, _, rfl, rfl, t2 _ _ g1, g2, (by have := c1.len; have := c2.len; omega), fun p3 hp3 => ?_⟩
      have s3 : Same H5 (upd G2 p3 (.lst ((cutV xs none (some at_)) ++ [V.str wd]))) := s2.then hp3
      have g3 : (upd G2 p3 (.lst ((cutV xs none (some at_)) ++ [V.str wd]))) p3 = some (.lst ((cutV xs none (some at_)) ++ [V.str wd])) := upd_same
      have c3 : Cv _ ((cutV xs none (some at_)) ++ [V.str wd]) := c1.app c2
      generalize upd G2 p3 (.lst ((cutV xs none (some at_)) ++ [V.str wd])) = G3 at s3 g3 ⊢
      refine ⟨_, rfl, _, rfl, _, rfl, l, xs, rfl, SqL.of (s3 _ _ f5), fun p4 hp4 => ?_⟩
      have s4 : Same H5 (upd G3 p4 (.lst (cutV xs (some at_) none))) := s3.then hp4
      have t4 : Same G3 (upd G3 p4 (.lst (cutV xs (some at_) none))) := Same.new hp4
      have g4 : (upd G3 p4 (.lst (cutV xs (some at_) none))) p4 = some (.lst (cutV xs (some at_) none)) := upd_same
      have c4 : Cv _ (cutV xs (some at_) none) := cv.cut _ _
      generalize upd G3 p4 (.lst (cutV xs (some at_) none)) = G4 at s4 t4 g4 ⊢
      refine ⟨p3, p4, _, _, rfl, rfl, t4 _ _ g3, g4, (by have := c3.len; have := c4.len; omega), fun p5 hp5 => ?_⟩
      have s5 : Same H5 (upd G4 p5 (.lst (((cutV xs none (some at_)) ++ [V.str wd]) ++ cutV xs (some at_) none))) := s4.then hp5
      have g5 : (upd G4 p5 (.lst (((cutV xs none (some at_)) ++ [V.str wd]) ++ cutV xs (some at_) none))) p5 = some (.lst (((cutV xs none (some at_)) ++ [V.str wd]) ++ cutV xs (some at_) none)) := upd_same
      have c5 : Cv _ (((cutV xs none (some at_)) ++ [V.str wd]) ++ cutV xs (some at_) none) := c3.app c4
      generalize upd G4 p5 (.lst (((cutV xs none (some at_)) ++ [V.str wd]) ++ cutV xs (some at_) none)) = G5 at s5 g5 ⊢
      refine ⟨_, rfl, rfl, _, rfl, iteD (by decide) ⟨_, rfl, rfl, _, rfl, iteD (by decide) ⟨rfl, _, rfl, jn p5 _ _ g5 ?_ (F5.same s5) (sb.trans s5.b)⟩⟩⟩
      obtain ⟨ws, e, hws⟩ := c5
      exact ⟨ws, e, by omega⟩
    · refine ⟨_, rfl, rfl, _, rfl, iteD (by decide) ⟨_, rfl, rfl, _, rfl, iteD (by decide) ⟨_, rfl, rfl, _, rfl, iteD (by decide) ⟨_, rfl, rfl, _, rfl, iteD (by decide) ⟨_, rfl, rfl, _, rfl, iteC (by decide) ⟨_, rfl, _, rfl, _, rfl, z, rfl, (by omega), _, rfl, d, _, rfl, F5, by decide, by decide, fun q2 H6 q20 q21 F6 sb6 => ?_⟩⟩⟩⟩⟩⟩
      obtain ⟨c, hc⟩ := sign_at q20 q21
      have h1 := hs1 none (some pl)
      have h2 := hs1 (some pl) none
      have e1 : ∀ u : Str, (u ++ (⟨#[c]⟩ : Str)).length = u.length + 1 := fun u => by rw [Str.length_append]; rfl
      refine ⟨_, _, _, rfl, rfl, (by show 6 ≤ sizeLine; decide), hc, _, _, rfl, rfl, (by show _ + 1 ≤ sizeLine; omega), _, rfl, _, rfl, _, rfl, z, rfl, (by omega), _, _, rfl, rfl, (by rw [e1]; omega), k _ _ ?_ F6 (sb.trans sb6)⟩
      rw [Str.length_append, e1]
      omega
    · refine ⟨_, rfl, rfl, _, rfl, iteD (by decide) ⟨_, rfl, rfl, _, rfl, iteD (by decide) ⟨_, rfl, rfl, _, rfl, iteD (by decide) ⟨_, rfl, rfl, _, rfl, iteD (by decide) ⟨_, rfl, rfl, _, rfl, iteD (by decide) ⟨_, rfl, rfl, _, rfl, iteC (by decide) ⟨_, rfl, _, rfl, _, rfl, z, rfl, (by omega), _, rfl, _, rfl, _, _, rfl, rfl, _, rfl, z, rfl, (by omega), _, _, rfl, rfl, ?_, k _ _ ?_ F5 sb⟩⟩⟩⟩⟩⟩⟩
      · have h1 := hs1 none (some pl)
        have h2 := hs1 (some (pl + 1)) none
        omega
      · have h1 := hs1 none (some pl)
        have h2 := hs1 (some (pl + 1)) none
        rw [Str.length_append]
        omega
end
end Kx
set_option Elab.async false
set_option linter.all false
set_option maxRecDepth 100000
set_option maxHeartbeats 0
namespace Kx
open PySem PySem.Spec PyProof.Rows L2 Wd
noncomputable def spLaw (K : PySem.W.Frag) : Sp := fun vs H Q _ => ∃ (a : Addr) (ns : List Int), vs = [.ref a] ∧ SqL K H a (ns.map V.int) ∧ ns.length ≤ 63 ∧ ∀ H', Q (.bl true) H'
section
variable {P : Program} {w : World} {K : PySem.W.Frag} {mg : Str → Option Value} {base : Heap} {aB : Addr}
theorem FdupdS {H : Hp} {d l : Addr} {z : Str} {o : HO} {xs : List V} (F : Fd H d) (h : H l = some (.lst xs)) (n : l ≠ d) (hx : .str z ∈ xs) : Fd (L2.upd H l o) d := by
  obtain ⟨c, i, ll, t, ns, h1, h2, h3, h4⟩ := F.ex
  have hc : c ≠ l := fun e => by
    subst e
    rw [h2] at h
    have h := HO.lst.inj (Option.some.inj h)
    rw [← h] at hx
    obtain ⟨k, _, e⟩ := List.mem_map.mp hx
    cases e
  exact ⟨c, i, ll, t, ns, by rw [upd_ne n.symm]; exact h1, by rw [upd_ne hc]; exact h2, h3, h4⟩
noncomputable def TL (n : Nat) (ys : List V) : Prop := ∃ ws : List Str, ys = ws.map V.str ∧ (∀ z ∈ ws, z.length ≤ 5000) ∧ ws.length ≤ n
theorem TL.app {n m : Nat} {xs ys : List V} (h : TL n xs) (g : TL m ys) : TL (n + m) (xs ++ ys) := by
  obtain ⟨ws, rfl, hw, hn⟩ := h
  obtain ⟨vs, rfl, hv, hm⟩ := g
  exact ⟨ws ++ vs, by rw [List.map_append], fun z hz => (List.mem_append.mp hz).elim (hw z) (hv z), by rw [List.length_append]; omega⟩
theorem TL.one {z : Str} (h : z.length ≤ 5000) : TL 1 [.str z] := ⟨[z], rfl, fun y hy => by rw [List.mem_singleton] at hy; rw [hy]; exact h, Nat.le_refl _⟩
theorem TL.len {n : Nat} {xs : List V} (h : TL n xs) : xs.length ≤ n := by
  obtain ⟨ws, rfl, hw, hn⟩ := h
  rw [List.length_map]
  exact hn
noncomputable def tx1 : List Str := ["", " ", "-", "- ", "-; out 0", "out 0; -", "out", "out ", "out 0 ", "out 0 0", "in", "in 0", "in 0 ab"]
noncomputable def tx2 : List Str := ["in 0 a a", "ring", "ring 0", "ring 0 a", "ring 0 a 1 ", "ring 0  1", "ring a a 1", "out 0;", ";"]
noncomputable def tx3 : List Str := ["out 0;out 0", "out 0;  out 0", "out 0; ", "; out 0", "Out 0", "out -1", "out 0~", "out 0;;"]
theorem tl1 : TL 13 (tx1.map V.str) := ⟨_, rfl, by decide +kernel, by decide⟩
theorem tl2 : TL 9 (tx2.map V.str) := ⟨_, rfl, by decide +kernel, by decide⟩
theorem tl3 : TL 8 (tx3.map V.str) := ⟨_, rfl, by decide +kernel, by decide⟩
theorem mul_le {z : Str} (h : z.length = 1) : (Txt.mul z 4400).length ≤ 4400 := by
  have := len_mul_leN (x := z) (n := 4400) (L := 1) (N := 4400) (by omega) (by omega)
  omega
theorem mulok {z : Str} (h : z.length = 1) : MulOk z 4400 := by
  refine ⟨?_, fun hn _ => ?_, fun hn _ => ?_⟩
  · decide
  · rw [h]
    decide
  · rw [h]
    decide
noncomputable abbrev s_law : Stmt := top 37
theorem sc_law : FnScope ["_law_script", "_law_feed_here", "_law_texts", "_law_k", "_law_text"] ["_law_script"] (defScope s_law) := ⟨rfl, rfl, rfl, by decide +kernel, rfl, by decide +kernel, by decide +kernel⟩
theorem c_law {f : Addr} {fd : FuncData} (D : Fun K "law" "law" s_law f fd) (T : Bt K w mg aB) (F_feed : Fnc P w K mg base "_law_feed" ["_law_script"] 1 (spFeed K)) (F_draw : Fnc P w K mg base "_law_draw" ["_law_feed_here", "_law_many"] 1 spDraw)
    (F_good : Fnc P w K mg base "_law_good" ["_law_feed_here"] 2 spGood) (F_spoilt : Fnc P w K mg base "_law_spoilt" ["_law_feed_here", "_law_text"] 2 spSpoilt) (F_told : Fnc P w K mg base "_law_told" ["_law_text"] 6 spTold) (F_due : Fnc P w K mg base "_law_due" ["_law_text"] 4 spTold) : FnOk P w K mg base CX0 7 f fd ["_law_script"] (spLaw K) := by
  have sc := sc_law
  refine D.ok sc (fun vs H Q E h => ?_) (fun cdv A outer s H vs Q E hr h => ?_)
  · obtain ⟨a, ns, rfl, _⟩ := h
    rfl
  · obtain ⟨a, ns, rfl, hS, hlen, k⟩ := h
    have l16 := line16
    refine ⟨_, (@pss_cons _ _ _ _ _ (@ps_set _ _ (1) _ _ _ _ sc.nd rfl (Or.inl rfl) (@pe_fn _ _ _ _ _ _ _ _ _ _ _ F_feed hr (by decide) rfl (@pa_cons _ _ _ _ _ (pv 0) pa_nil (by rfl)) (by decide) (by rfl) (by rfl)) (by rfl) (by first | exact .inl rfl | exact .inr rfl | assumption)) (@pss_cons _ _ _ _ _ (@ps_set _ _ (2) _ _ _ _ sc.nd rfl (Or.inl rfl) (@pe_lst _ _ _ _ (@pa_lits _ _ ([.str "", .str " ", .str "-", .str "- ", .str "-; out 0", .str "out 0; -", .str "out", .str "out ", .str "out 0 ", .str "out 0 0", .str "in", .str "in 0", .str "in 0 ab"]) (by kernel_rfl))) (by rfl) (by first | exact .inl rfl | exact .inr rfl | assumption)) (@pss_cons _ _ _ _ _ (@ps_set _ _ (2) _ _ _ _ sc.nd rfl (Or.inl rfl) (@pe_op _ _ _ _ _ _ _ _ op_cat (pv 2) (@pe_lst _ _ _ _ (@pa_lits _ _ ([.str "in 0 a a", .str "ring", .str "ring 0", .str "ring 0 a", .str "ring 0 a 1 ", .str "ring 0  1", .str "ring a a 1", .str "out 0;", .str ";"]) (by kernel_rfl)))) (by rfl) (by first | exact .inl rfl | exact .inr rfl | assumption)) (@pss_cons _ _ _ _ _ (@ps_set _ _ (2) _ _ _ _ sc.nd rfl (Or.inl rfl) (@pe_op _ _ _ _ _ _ _ _ op_cat (pv 2) (@pe_lst _ _ _ _ (@pa_lits _ _ ([.str "out 0;out 0", .str "out 0;  out 0", .str "out 0; ", .str "; out 0", .str "Out 0", .str "out -1", .str "out 0~", .str "out 0;;"]) (by kernel_rfl)))) (by rfl) (by first | exact .inl rfl | exact .inr rfl | assumption)) (@pss_cons _ _ _ _ _ (@ps_set _ _ (2) _ _ _ _ sc.nd rfl (Or.inl rfl) (@pe_op _ _ _ _ _ _ _ _ op_cat (pv 2) (@pe_lst _ _ _ _ (@pa_cons _ _ _ _ _ (@pe_op _ _ _ _ _ _ _ _ op_add_str pe_str (@pe_op _ _ _ _ _ _ _ _ op_mul_str pe_str pe_int)) (@pa_cons _ _ _ _ _ (@pe_op _ _ _ _ _ _ _ _ op_add_str (@pe_op _ _ _ _ _ _ _ _ op_add_str pe_str (@pe_op _ _ _ _ _ _ _ _ op_mul_str pe_str pe_int)) pe_str) (@pa_cons _ _ _ _ _ (@pe_op _ _ _ _ _ _ _ _ op_add_str pe_str (@pe_op _ _ _ _ _ _ _ _ op_mul_str pe_str pe_int)) pa_nil (by rfl)) (by rfl)) (by rfl)))) (by rfl) (by first | exact .inl rfl | exact .inr rfl | assumption)) (@pss_cons _ _ _ _ _ (@ps_for _ _ _ _ _ _ _ _ PassesOwn.never rfl (@pi_range1 _ _ _ _ _ _ rfl T.range (@pa_cons _ _ _ _ _ pe_int pa_nil (by rfl)) (by rfl)) (@pg_name _ _ (3) _ sc.nd rfl (Or.inl rfl) (by first | exact .inl rfl | exact .inr rfl | assumption)) (@pss_cons _ _ _ _ _ (@ps_set _ _ (4) _ _ _ _ sc.nd rfl (Or.inl rfl) (@pe_fn _ _ _ _ _ _ _ _ _ _ _ F_spoilt hr (by decide) rfl (@pa_cons _ _ _ _ _ (pv 1) (@pa_cons _ _ _ _ _ (@pe_fn _ _ _ _ _ _ _ _ _ _ _ F_good hr (by decide) rfl (@pa_cons _ _ _ _ _ (pv 1) pa_nil (by rfl)) (by decide) (by rfl) (by rfl)) pa_nil (by rfl)) (by rfl)) (by decide) (by rfl) (by rfl)) (by rfl) (by first | exact .inl rfl | exact .inr rfl | assumption)) (@pss_one _ _ _ (@ps_expr _ _ _ _ (@pe_bm _ _ _ _ _ _ _ _ _ _ _ _ PySem.F.plainAttrs_list PySem.F.slot_list_append PySem.F.type_list_append mt_append (pv 2) (@pa_cons _ _ _ _ _ (@pe_ifExp _ _ _ _ _ _ _ _ (@pt_cmpR _ _ _ _ _ _ _ _ op_eq (@pe_fn _ _ _ _ _ _ _ _ _ _ _ F_draw hr (by decide) rfl (@pa_cons _ _ _ _ _ (pv 1) (@pa_cons _ _ _ _ _ pe_int pa_nil (by rfl)) (by rfl)) (by decide) (by rfl) (by rfl)) pe_int (nomark _)) (@pe_fn _ _ _ _ _ _ _ _ _ _ _ F_spoilt hr (by decide) rfl (@pa_cons _ _ _ _ _ (pv 1) (@pa_cons _ _ _ _ _ (pv 4) pa_nil (by rfl)) (by rfl)) (by decide) (by rfl) (by rfl)) (pv 4)) pa_nil (by rfl)) (by rfl) (by rfl) (by rfl) (by rfl) (by rfl)) (by rfl)))) (by intro _ ; rfl)) (@pss_one _ _ _ (@ps_ret _ _ _ _ (@pe_cmpR _ _ _ _ _ _ _ _ (@op_eq_nil _ (by exact hr.units)) (@pe_comp _ _ _ _ _ _ _ (["_law_text"]) (["_law_text"]) ([]) _ _ _ _ (@blk_of _ _ _ _ _ _ rfl (by kernel_rfl)) rfl (@pi_list _ _ _ _ (pv 2)) (fun _ _ _ _ => @pg_name _ _ (0) _ (show (["_law_text"] : List Str).Nodup from by decide +kernel) rfl (Or.inl rfl) (by first | exact .inl rfl | exact .inr rfl | assumption)) (fun _ _ _ _ => (@pifs_one _ _ _ (by exact (@pt_cmpR _ _ _ _ _ _ _ _ op_ne (@pe_callB _ _ _ _ _ _ _ _ _ (@call_repr_dat _ (by exact hr.gd) (by exact hr.units)) (by rfl) T.repr b_repr (@pa_cons _ _ _ _ _ (@pe_fn _ _ _ _ _ _ _ _ _ _ _ F_told hr (by decide) rfl (@pa_cons _ _ _ _ _ (pv 0) pa_nil (by rfl)) (by decide) (by rfl) (by rfl)) pa_nil (by rfl)) (by decide) (by decide) (by rfl) (by rfl)) (@pe_callB _ _ _ _ _ _ _ _ _ (@call_repr_dat _ (by exact hr.gd) (by exact hr.units)) (by rfl) T.repr b_repr (@pa_cons _ _ _ _ _ (@pe_fn _ _ _ _ _ _ _ _ _ _ _ F_due hr (by decide) rfl (@pa_cons _ _ _ _ _ (pv 0) pa_nil (by rfl)) (by decide) (by rfl) (by rfl)) pa_nil (by rfl)) (by decide) (by decide) (by rfl) (by rfl)) (nomark _))))) (fun _ _ _ _ => by (exact (pv 0))) (by intro _ ; rfl)) (@pe_lst _ _ _ _ pa_nil) (nomark _)))))))))), ?_⟩
    rw [show ([V.str "", V.str " ", V.str "-", V.str "- ", V.str "-; out 0", V.str "out 0; -", V.str "out", V.str "out ", V.str "out 0 ", V.str "out 0 0", V.str "in", V.str "in 0", V.str "in 0 ab"] : List V) = tx1.map V.str from rfl]
    rw [show ([V.str "in 0 a a", V.str "ring", V.str "ring 0", V.str "ring 0 a", V.str "ring 0 a 1 ", V.str "ring 0  1", V.str "ring a a 1", V.str "out 0;", V.str ";"] : List V) = tx2.map V.str from rfl]
    rw [show ([V.str "out 0;out 0", V.str "out 0;  out 0", V.str "out 0; ", V.str "; out 0", V.str "Out 0", V.str "out -1", V.str "out 0~", V.str "out 0;;"] : List V) = tx3.map V.str from rfl]
    refine ⟨_, rfl, a, ns, rfl, hS, hlen, fun d H0 hd0 F0 s0 => ?_⟩
    refine ⟨(by show 13 ≤ sizeLine; decide), fun l1 hl1 => ?_⟩
    have F1 : Fd (upd H0 l1 (.lst (tx1.map V.str))) d := F0.new hl1
    have f1 : (upd H0 l1 (.lst (tx1.map V.str))) l1 = some (.lst (tx1.map V.str)) := upd_same
    generalize upd H0 l1 (.lst (tx1.map V.str)) = H1 at F1 f1 ⊢
    refine ⟨_, rfl, (by show 9 ≤ sizeLine; decide), fun l2 hl2 => ?_⟩
    have F2 : Fd (upd H1 l2 (.lst (tx2.map V.str))) d := F1.new hl2
    have f2 : (upd H1 l2 (.lst (tx2.map V.str))) l2 = some (.lst (tx2.map V.str)) := upd_same
    have g2 := Same.new (o := .lst (tx2.map V.str)) hl2 _ _ f1
    generalize upd H1 l2 (.lst (tx2.map V.str)) = H2 at F2 f2 g2 ⊢
    refine ⟨l1, l2, _, _, rfl, rfl, g2, f2, (by show 22 ≤ sizeLine; decide), fun l3 hl3 => ?_⟩
    have c3 := tl1.app tl2
    have m3 : V.str "" ∈ tx1.map V.str ++ tx2.map V.str := List.mem_append_left _ List.mem_cons_self
    generalize tx1.map V.str ++ tx2.map V.str = y3 at c3 m3 ⊢
    have F3 : Fd (upd H2 l3 (.lst y3)) d := F2.new hl3
    have f3 : (upd H2 l3 (.lst y3)) l3 = some (.lst y3) := upd_same
    generalize upd H2 l3 (.lst y3) = H3 at F3 f3 ⊢
    refine ⟨_, rfl, (by show 8 ≤ sizeLine; decide), fun l4 hl4 => ?_⟩
    have F4 : Fd (upd H3 l4 (.lst (tx3.map V.str))) d := F3.new hl4
    have f4 : (upd H3 l4 (.lst (tx3.map V.str))) l4 = some (.lst (tx3.map V.str)) := upd_same
    have g4 := Same.new (o := .lst (tx3.map V.str)) hl4 _ _ f3
    generalize upd H3 l4 (.lst (tx3.map V.str)) = H4 at F4 f4 g4 ⊢
    refine ⟨l3, l4, _, _, rfl, rfl, g4, f4, (by have := c3.len; have := tl3.len; omega), fun l5 hl5 => ?_⟩
    have c5 := c3.app tl3
    have m5 : V.str "" ∈ y3 ++ tx3.map V.str := List.mem_append_left _ m3
    generalize y3 ++ tx3.map V.str = y5 at c5 m5 ⊢
    have F5 : Fd (upd H4 l5 (.lst y5)) d := F4.new hl5
    have f5 : (upd H4 l5 (.lst y5)) l5 = some (.lst y5) := upd_same
    generalize upd H4 l5 (.lst y5) = H5 at F5 f5 ⊢
    have e9 : ("9" : Str).length = 1 := by decide +kernel
    have e1 : ("1" : Str).length = 1 := by decide +kernel
    have e0 : ("0" : Str).length = 1 := by decide +kernel
    have eo : ("out " : Str).length = 4 := by decide +kernel
    have ei : ("in " : Str).length = 3 := by decide +kernel
    have ea : (" a" : Str).length = 2 := by decide +kernel
    have er : ("ring 0 a 0" : Str).length = 10 := by decide +kernel
    have u9 := mul_le e9
    have u1 := mul_le e1
    have u0 := mul_le e0
    refine ⟨_, rfl, _, _, rfl, rfl, mulok e9, _, _, rfl, rfl, (by rw [eo]; omega), _, _, rfl, rfl, mulok e1, _, _, rfl, rfl, (by rw [ei]; omega), _, _, rfl, rfl, (by rw [Str.length_append, ei, ea]; omega), _, _, rfl, rfl, mulok e0, _, _, rfl, rfl, (by rw [er]; omega), (by show 3 ≤ sizeLine; decide), fun l6 hl6 => ?_⟩
    generalize hw9 : ("out " : Str) ++ Txt.mul "9" 4400 = w9
    generalize hw1 : ("in " : Str) ++ Txt.mul "1" 4400 ++ (" a" : Str) = w1
    generalize hw0 : ("ring 0 a 0" : Str) ++ Txt.mul "0" 4400 = w0
    have v9 : w9.length ≤ 5000 := by rw [← hw9, Str.length_append, eo]; omega
    have v1 : w1.length ≤ 5000 := by rw [← hw1, Str.length_append, Str.length_append, ei, ea]; omega
    have v0 : w0.length ≤ 5000 := by rw [← hw0, Str.length_append, er]; omega
    have tl6 : TL 3 [.str w9, .str w1, .str w0] := (TL.one v9).app ((TL.one v1).app (TL.one v0))
    clear hw9 hw1 hw0 u9 u1 u0
    have F6 : Fd (upd H5 l6 (.lst [.str w9, .str w1, .str w0])) d := F5.new hl6
    have f6 : (upd H5 l6 (.lst [.str w9, .str w1, .str w0])) l6 = some (.lst [.str w9, .str w1, .str w0]) := upd_same
    have g6 := Same.new (o := .lst [.str w9, .str w1, .str w0]) hl6 _ _ f5
    generalize upd H5 l6 (.lst [.str w9, .str w1, .str w0]) = H6 at F6 f6 g6 ⊢
    refine ⟨l5, l6, _, _, rfl, rfl, g6, f6, (by have := c5.len; have := tl6.len; omega), fun l7 hl7 => ?_⟩
    have c7 := c5.app tl6
    have m7 : V.str "" ∈ y5 ++ [.str w9, .str w1, .str w0] := List.mem_append_left _ m5
    generalize y5 ++ [.str w9, .str w1, .str w0] = y7 at c7 m7 ⊢
    have F7 : Fd (upd H6 l7 (.lst y7)) d := F6.new hl7
    have f7 : (upd H6 l7 (.lst y7)) l7 = some (.lst y7) := upd_same
    generalize upd H6 l7 (.lst y7) = H7 at F7 f7 ⊢
    have nl := F7.nl f7
    refine ⟨_, rfl, by decide, by decide, for_range (lo := 0) (n := 12) (fun i σ H' => ∃ (b3 b4 : Option V) (ys : List V), σ = [some (.ref a), some (.ref d), some (.ref l7), b3, b4] ∧ H' l7 = some (.lst ys) ∧ TL (33 + i) ys ∧ V.str "" ∈ ys ∧ Fd H' d) ⟨none, none, y7, rfl, f7, c7, m7, F7⟩ ?_ ?_⟩
    · rintro i σ H8 hi ⟨b3, b4, ys, rfl, f8, c8, m8, F8⟩
      refine ⟨_, rfl, _, rfl, d, rfl, F8, fun z H9 hz F9 sb9 => ?_⟩
      refine ⟨d, z, rfl, F9, by omega, fun y H10 hy F10 sb10 => ?_⟩
      have f10 := sb10 _ _ nl (sb9 _ _ nl f8)
      have hlen8 := c8.len
      refine ⟨_, rfl, .inl ⟨rfl, _, SqL.of f10⟩, _, rfl, d, _, rfl, F10, by decide, by decide, fun r H11 r0 r1 F11 sb11 => ⟨rfl, _, rfl, ?_⟩⟩
      have f11 := sb11 _ _ nl f10
      by_cases hr0 : r = 0
      · refine iteC (by rw [hr0]; decide) ⟨_, rfl, _, rfl, d, y, rfl, F11, by omega, fun y2 H12 hy2 F12 sb12 => ?_⟩
        have f12 := sb12 _ _ nl f11
        exact ⟨l7, _, _, rfl, rfl, f12, by omega, _, _, _, rfl, upd_same, c8.app (TL.one (by omega)), List.mem_append_left _ m8, FdupdS F12 f12 nl m8⟩
      · exact iteD (decide_eq_false fun e => hr0 (V.int.inj e)) ⟨_, rfl, l7, _, _, rfl, rfl, f11, by omega, _, _, _, rfl, upd_same, c8.app (TL.one (by omega)), List.mem_append_left _ m8, FdupdS F11 f11 nl m8⟩
    · rintro σ H8 ⟨b3, b4, ys, rfl, f8, c8, m8, F8⟩
      obtain ⟨ws, rfl, hws, hn⟩ := c8
      refine ⟨_, rfl, l7, rfl, ⟨_, SqL.of f8⟩, comp_list (own := ["_law_text"]) (cap := []) (xs := ws.map V.str) (fun i ys σ H' => ∃ v : Option V, σ = [v] ∧ ys = [] ∧ H' l7 = some (.lst (ws.map V.str))) ⟨none, rfl, rfl, f8⟩ (fun i ys σ H' hi ⟨v, _, e, _⟩ => by rw [e]; exact Nat.zero_le _) (by rw [List.length_map]; omega) (fun i ys σ H' ⟨v, _, _, f⟩ => SqL.of f) ?_ ?_⟩
      · rintro i ys σ H9 x N hx ⟨v, rfl, rfl, f9⟩ hN
        obtain ⟨z, hz, ex⟩ : ∃ z, ws[i]? = some z ∧ x = .str z := by
          rw [List.getElem?_map] at hx
          cases hq2 : ws[i]? with
          | none => rw [hq2] at hx; cases hx
          | some z => rw [hq2] at hx; exact ⟨z, rfl, (Option.some.inj hx).symm⟩
        subst ex
        have hzl := hws z (List.mem_of_getElem? hz)
        have tz := tx_of hzl
        have sh := sh_due hzl
        refine ⟨_, rfl, z, rfl, tz, fun a1 H10 d10 s10 => ⟨a1, _, rfl, d10, sh, _, rfl, z, rfl, tz, fun a2 H11 d11 s11 => ⟨a2, _, rfl, d11, sh, rfl, _, rfl, iteNS rfl ?_⟩⟩⟩
        exact hN _ _ _ ⟨_, rfl, rfl, s11 _ _ (s10 _ _ f9)⟩
      · rintro ys σ H9 D9 ⟨v, rfl, rfl, f9⟩ hD
        refine ⟨(by show 0 ≤ sizeLine; decide), fun p hp => ⟨D9, p, [], rfl, rfl, by rw [upd_ne (ne_of_none upd_same hp)]; exact upd_same, upd_same, k _⟩⟩
end
end Kx
set_option Elab.async false
set_option linter.all false
set_option maxRecDepth 100000
set_option maxHeartbeats 0
namespace Kx
open PySem PySem.Spec PyProof.Rows L2 Wd
section
variable {P : Program} {w : World} {K : PySem.W.Frag} {mg : Str → Option Value} {base : Heap} {aB : Addr}
noncomputable def cmem (st : Stmt) (j : Nat) : Stmt := match st with | .ClassDef (body := b) .. => b.getD j (.Pass ⟨0, 0, 0, 0⟩) | _ => .Pass ⟨0, 0, 0, 0⟩
noncomputable abbrev i_text : Stmt := cmem (top 3) 0
theorem sc_itext : FnScope ["self", "step", "word"] ["self", "step", "word"] (defScope i_text) := ⟨rfl, rfl, rfl, by decide +kernel, rfl, by decide +kernel, by decide +kernel⟩
theorem c_itext {R C f : Addr} {fd : FuncData} (D : Fun K "__init__" "NoText.__init__" i_text f fd) (B : XBase K R) (hR : mg "RingError" = some (.ref R)) (x : XAt K C) (n0 : PySem.W.findIn K (.ref C) "step" = some none) (n1 : PySem.W.findIn K (.ref C) "word" = some none) :
    Binds K fd ["self", "step", "word"] [] ∧ FnOk P w K mg base CX0 1 f fd ["self", "step", "word"] (spInit ["step", "word"] C) := by
  have sc := sc_itext
  refine ⟨D.binds fun _ _ _ _ _ _ us hl => match us, hl with | [_, _, _], _ => rfl, D.ok sc (fun vs H Q E h => ?_) (fun cdv A outer s H vs Q E hr h => ?_)⟩
  · obtain ⟨a, ys, b, rfl, hl, _⟩ := h
    rw [List.length_cons, hl]; rfl
  · obtain ⟨a, ys, b, rfl, hl, ea, k⟩ := h
    match ys, hl with
    | [y, z], _ =>
    refine ⟨_, (@pss_cons _ _ _ _ _ (@ps_expr _ _ _ _ (@pe_initX _ _ _ _ _ _ _ _ _ _ B rfl hR (@pa_cons _ _ _ _ _ (pv 0) (@pa_cons _ _ _ _ _ pe_str pa_nil (by rfl)) (by rfl)) (by decide) (by rfl) (by rfl) (by rfl)) (by rfl))
      (@pss_cons _ _ _ _ _ (@ps_fx0 _ _ _ _ _ _ _ _ (pv 0) (pv 1) (by rfl)) (@pss_one _ _ _ (@ps_fx1 _ _ _ _ _ _ _ _ (pv 0) (pv 2) (by rfl))))), ?_⟩
    refine ⟨_, rfl, a, C, none, b, [_], rfl, by simp, ea, x, ?_⟩
    refine ⟨_, rfl, _, rfl, a, C, b, rfl, ea, x, n0, fun dx hdx ne => ?_⟩
    refine ⟨_, rfl, _, rfl, a, C, b, dx, _, rfl, ?_, upd_same .., by simp, x, n1, ne, ?_⟩
    · rw [upd_ne (Ne.symm ne), upd_same]
    · have q := k dx hdx ne
      rw [show ∀ o o', upd (upd (upd H a (Exo a C (some dx) b)) dx o) dx o' = upd (upd H a (Exo a C (some dx) b)) dx o' from fun _ _ => upd_upd]
      exact q
end
end Kx
set_option Elab.async false
set_option linter.all false
set_option maxRecDepth 100000
set_option maxHeartbeats 0
namespace Kx
open PySem PySem.Spec PyProof.Rows L2 Wd
theorem df_mk {K : PySem.W.Frag} {h : Heap} {mg : Str → Option Value} {x : Str} {st : Stmt} {f : Addr} {oc : Value} {od an : Option Addr} {osl : Array (Option Value)} {kV doc pm cdv ct : Value} (X : K.In h) (G : h.Ns mainGlobals mg) (a : PySem.W.nsIn K mainGlobals x = some (some (.ref f)))
    (l : K.lookup f = some ⟨oc, od, .func (PySem.W.fnOf x x (defArgs st) (defBody st) (defScope st) .none kV doc pm an cdv ct), osl⟩) (c : PySem.W.codeIn K cdv x = true) (k : PySem.W.keepIn K (.ref f) = true) : Df K mg x st := ⟨f, _, PySem.W.mg_of X G a, fun_mk l c k⟩
theorem all_mk {l : PySem.W.OpenLaw} {w : World} {K : PySem.W.Frag} {h : Heap} {mg : Str → Option Value} {fa : Addr} (X : K.In h) (G : h.Ns mainGlobals mg) (hfa : mg "law" = some (.ref fa))
    {f0 : Addr} {od0 an0 : Option Addr} {sl0 : Array (Option Value)} {oc0 kV0 dc0 pm0 cd0 ct0 : Value} {f1 : Addr} {od1 an1 : Option Addr} {sl1 : Array (Option Value)} {oc1 kV1 dc1 pm1 cd1 ct1 : Value} {f2 : Addr} {od2 an2 : Option Addr} {sl2 : Array (Option Value)} {oc2 kV2 dc2 pm2 cd2 ct2 : Value} {f3 : Addr} {od3 an3 : Option Addr} {sl3 : Array (Option Value)} {oc3 kV3 dc3 pm3 cd3 ct3 : Value} {f4 : Addr} {od4 an4 : Option Addr} {sl4 : Array (Option Value)} {oc4 kV4 dc4 pm4 cd4 ct4 : Value} {f5 : Addr} {od5 an5 : Option Addr} {sl5 : Array (Option Value)} {oc5 kV5 dc5 pm5 cd5 ct5 : Value} {f6 : Addr} {od6 an6 : Option Addr} {sl6 : Array (Option Value)} {oc6 kV6 dc6 pm6 cd6 ct6 : Value} {f7 : Addr} {od7 an7 : Option Addr} {sl7 : Array (Option Value)} {oc7 kV7 dc7 pm7 cd7 ct7 : Value} {f8 : Addr} {od8 an8 : Option Addr} {sl8 : Array (Option Value)} {oc8 kV8 dc8 pm8 cd8 ct8 : Value} {f9 : Addr} {od9 an9 : Option Addr} {sl9 : Array (Option Value)} {oc9 kV9 dc9 pm9 cd9 ct9 : Value} {f10 : Addr} {od10 an10 : Option Addr} {sl10 : Array (Option Value)} {oc10 kV10 dc10 pm10 cd10 ct10 : Value} {f11 : Addr} {od11 an11 : Option Addr} {sl11 : Array (Option Value)} {oc11 kV11 dc11 pm11 cd11 ct11 : Value} {f12 : Addr} {od12 an12 : Option Addr} {sl12 : Array (Option Value)} {oc12 kV12 dc12 pm12 cd12 ct12 : Value} {f13 : Addr} {od13 an13 : Option Addr} {sl13 : Array (Option Value)} {oc13 kV13 dc13 pm13 cd13 ct13 : Value} {f14 : Addr} {od14 an14 : Option Addr} {sl14 : Array (Option Value)} {oc14 kV14 dc14 pm14 cd14 ct14 : Value} {f15 : Addr} {od15 an15 : Option Addr} {sl15 : Array (Option Value)} {oc15 kV15 dc15 pm15 cd15 ct15 : Value} {f16 : Addr} {od16 an16 : Option Addr} {sl16 : Array (Option Value)} {oc16 kV16 dc16 pm16 cd16 ct16 : Value} {f17 : Addr} {od17 an17 : Option Addr} {sl17 : Array (Option Value)} {oc17 kV17 dc17 pm17 cd17 ct17 : Value} {aB : Addr} {es : Array DictEntry} {en : Nat} {tS : Tok}   {tM tF tG : Tok}    {aF : Addr} {esF : Array DictEntry} {nF : Nat}    {fa0 : Addr} {fd0 : Option Addr} {fn0 : Nat} {fs0 : Array (Option Value)} {ft0_0 : Tok}  {fa1 : Addr} {fd1 : Option Addr} {fn1 : Nat} {fs1 : Array (Option Value)} {ft1_0 ft1_1 : Tok}  {fa2 : Addr} {fd2 : Option Addr} {fn2 : Nat} {fs2 : Array (Option Value)} {ft2_0 ft2_1 ft2_2 : Tok}    {CR : Addr} {ddCR : Option Addr} {cdCR : ClassData} {sCR0 sCR1 sCR2 sCR3 sCR5 : Option Value}         {nsCR : Addr} {onCR : Value} {dnCR : Option Addr} {esCR : Array DictEntry} {nnCR : Nat} {snCR : Array (Option Value)}         {CT : Addr} {ddCT : Option Addr} {cdCT : ClassData} {sCT0 sCT1 sCT2 sCT3 sCT5 : Option Value}           {fCT : Addr} {ocCT kVCT dcCT pmCT cvCT ctCT : Value} {odCT anCT : Option Addr} {slCT : Array (Option Value)}    {ck0 : Addr} {ck1 : Addr} {ck2 : Addr} {ck3 : Addr} {ck4 : Addr} {ck5 : Addr} {ck6 : Addr} {ck7 : Addr} {dk0 : Option Addr} {xk0 : ClassData} {sk0 : Array (Option Value)}  {dk1 : Option Addr} {xk1 : ClassData} {sk1 : Array (Option Value)}  {dk2 : Option Addr} {xk2 : ClassData} {sk2 : Array (Option Value)}  {dk3 : Option Addr} {xk3 : ClassData} {sk3 : Array (Option Value)}  {dk4 : Option Addr} {xk4 : ClassData} {sk4 : Array (Option Value)}  {dk5 : Option Addr} {xk5 : ClassData} {sk5 : Array (Option Value)}  {dk6 : Option Addr} {xk6 : ClassData} {sk6 : Array (Option Value)}  {dk7 : Option Addr} {xk7 : ClassData} {sk7 : Array (Option Value)}  {t0 t1 t2 t3 t4 t5 t6 t7 t8 t9 t10 t11 : Tok}
    (a0 : PySem.W.nsIn K mainGlobals "is_letter" = some (some (.ref f0)))
    (l0 : K.lookup f0 = some ⟨oc0, od0, .func (PySem.W.fnOf "is_letter" "is_letter" (defArgs s_letter) (defBody s_letter) (defScope s_letter) .none kV0 dc0 pm0 an0 cd0 ct0), sl0⟩)
    (c0 : PySem.W.codeIn K cd0 "is_letter" = true)
    (k0 : PySem.W.keepIn K (.ref f0) = true)
    (a1 : PySem.W.nsIn K mainGlobals "is_word" = some (some (.ref f1)))
    (l1 : K.lookup f1 = some ⟨oc1, od1, .func (PySem.W.fnOf "is_word" "is_word" (defArgs s_word) (defBody s_word) (defScope s_word) .none kV1 dc1 pm1 an1 cd1 ct1), sl1⟩)
    (c1 : PySem.W.codeIn K cd1 "is_word" = true)
    (k1 : PySem.W.keepIn K (.ref f1) = true)
    (a2 : PySem.W.nsIn K mainGlobals "number_of" = some (some (.ref f2)))
    (l2 : K.lookup f2 = some ⟨oc2, od2, .func (PySem.W.fnOf "number_of" "number_of" (defArgs s_num) (defBody s_num) (defScope s_num) .none kV2 dc2 pm2 an2 cd2 ct2), sl2⟩)
    (c2 : PySem.W.codeIn K cd2 "number_of" = true)
    (k2 : PySem.W.keepIn K (.ref f2) = true)
    (a3 : PySem.W.nsIn K mainGlobals "read_steps" = some (some (.ref f3)))
    (l3 : K.lookup f3 = some ⟨oc3, od3, .func (PySem.W.fnOf "read_steps" "read_steps" (defArgs s_read) (defBody s_read) (defScope s_read) .none kV3 dc3 pm3 an3 cd3 ct3), sl3⟩)
    (c3 : PySem.W.codeIn K cd3 "read_steps" = true)
    (k3 : PySem.W.keepIn K (.ref f3) = true)
    (a4 : PySem.W.nsIn K mainGlobals "first_wrong" = some (some (.ref f4)))
    (l4 : K.lookup f4 = some ⟨oc4, od4, .func (PySem.W.fnOf "first_wrong" "first_wrong" (defArgs s_wrong) (defBody s_wrong) (defScope s_wrong) .none kV4 dc4 pm4 an4 cd4 ct4), sl4⟩)
    (c4 : PySem.W.codeIn K cd4 "first_wrong" = true)
    (k4 : PySem.W.keepIn K (.ref f4) = true)
    (a5 : PySem.W.nsIn K mainGlobals "can_stand" = some (some (.ref f5)))
    (l5 : K.lookup f5 = some ⟨oc5, od5, .func (PySem.W.fnOf "can_stand" "can_stand" (defArgs s_stand) (defBody s_stand) (defScope s_stand) .none kV5 dc5 pm5 an5 cd5 ct5), sl5⟩)
    (c5 : PySem.W.codeIn K cd5 "can_stand" = true)
    (k5 : PySem.W.keepIn K (.ref f5) = true)
    (a6 : PySem.W.nsIn K mainGlobals "is_figures" = some (some (.ref f6)))
    (l6 : K.lookup f6 = some ⟨oc6, od6, .func (PySem.W.fnOf "is_figures" "is_figures" (defArgs s_fig) (defBody s_fig) (defScope s_fig) .none kV6 dc6 pm6 an6 cd6 ct6), sl6⟩)
    (c6 : PySem.W.codeIn K cd6 "is_figures" = true)
    (k6 : PySem.W.keepIn K (.ref f6) = true)
    (a7 : PySem.W.nsIn K mainGlobals "step_of" = some (some (.ref f7)))
    (l7 : K.lookup f7 = some ⟨oc7, od7, .func (PySem.W.fnOf "step_of" "step_of" (defArgs s_stepof) (defBody s_stepof) (defScope s_stepof) .none kV7 dc7 pm7 an7 cd7 ct7), sl7⟩)
    (c7 : PySem.W.codeIn K cd7 "step_of" = true)
    (k7 : PySem.W.keepIn K (.ref f7) = true)
    (a8 : PySem.W.nsIn K mainGlobals "_law_feed" = some (some (.ref f8)))
    (l8 : K.lookup f8 = some ⟨oc8, od8, .func (PySem.W.fnOf "_law_feed" "_law_feed" (defArgs s_feed) (defBody s_feed) (defScope s_feed) .none kV8 dc8 pm8 an8 cd8 ct8), sl8⟩)
    (c8 : PySem.W.codeIn K cd8 "_law_feed" = true)
    (k8 : PySem.W.keepIn K (.ref f8) = true)
    (a9 : PySem.W.nsIn K mainGlobals "_law_draw" = some (some (.ref f9)))
    (l9 : K.lookup f9 = some ⟨oc9, od9, .func (PySem.W.fnOf "_law_draw" "_law_draw" (defArgs s_draw) (defBody s_draw) (defScope s_draw) .none kV9 dc9 pm9 an9 cd9 ct9), sl9⟩)
    (c9 : PySem.W.codeIn K cd9 "_law_draw" = true)
    (k9 : PySem.W.keepIn K (.ref f9) = true)
    (a10 : PySem.W.nsIn K mainGlobals "_law_is_number" = some (some (.ref f10)))
    (l10 : K.lookup f10 = some ⟨oc10, od10, .func (PySem.W.fnOf "_law_is_number" "_law_is_number" (defArgs s_isnum) (defBody s_isnum) (defScope s_isnum) .none kV10 dc10 pm10 an10 cd10 ct10), sl10⟩)
    (c10 : PySem.W.codeIn K cd10 "_law_is_number" = true)
    (k10 : PySem.W.keepIn K (.ref f10) = true)
    (a11 : PySem.W.nsIn K mainGlobals "_law_fits" = some (some (.ref f11)))
    (l11 : K.lookup f11 = some ⟨oc11, od11, .func (PySem.W.fnOf "_law_fits" "_law_fits" (defArgs s_fits) (defBody s_fits) (defScope s_fits) .none kV11 dc11 pm11 an11 cd11 ct11), sl11⟩)
    (c11 : PySem.W.codeIn K cd11 "_law_fits" = true)
    (k11 : PySem.W.keepIn K (.ref f11) = true)
    (a12 : PySem.W.nsIn K mainGlobals "_law_step_in" = some (some (.ref f12)))
    (l12 : K.lookup f12 = some ⟨oc12, od12, .func (PySem.W.fnOf "_law_step_in" "_law_step_in" (defArgs s_stepin) (defBody s_stepin) (defScope s_stepin) .none kV12 dc12 pm12 an12 cd12 ct12), sl12⟩)
    (c12 : PySem.W.codeIn K cd12 "_law_step_in" = true)
    (k12 : PySem.W.keepIn K (.ref f12) = true)
    (a13 : PySem.W.nsIn K mainGlobals "_law_due" = some (some (.ref f13)))
    (l13 : K.lookup f13 = some ⟨oc13, od13, .func (PySem.W.fnOf "_law_due" "_law_due" (defArgs s_due) (defBody s_due) (defScope s_due) .none kV13 dc13 pm13 an13 cd13 ct13), sl13⟩)
    (c13 : PySem.W.codeIn K cd13 "_law_due" = true)
    (k13 : PySem.W.keepIn K (.ref f13) = true)
    (a14 : PySem.W.nsIn K mainGlobals "_law_told" = some (some (.ref f14)))
    (l14 : K.lookup f14 = some ⟨oc14, od14, .func (PySem.W.fnOf "_law_told" "_law_told" (defArgs s_told) (defBody s_told) (defScope s_told) .none kV14 dc14 pm14 an14 cd14 ct14), sl14⟩)
    (c14 : PySem.W.codeIn K cd14 "_law_told" = true)
    (k14 : PySem.W.keepIn K (.ref f14) = true)
    (a15 : PySem.W.nsIn K mainGlobals "_law_good" = some (some (.ref f15)))
    (l15 : K.lookup f15 = some ⟨oc15, od15, .func (PySem.W.fnOf "_law_good" "_law_good" (defArgs s_good) (defBody s_good) (defScope s_good) .none kV15 dc15 pm15 an15 cd15 ct15), sl15⟩)
    (c15 : PySem.W.codeIn K cd15 "_law_good" = true)
    (k15 : PySem.W.keepIn K (.ref f15) = true)
    (a16 : PySem.W.nsIn K mainGlobals "_law_spoilt" = some (some (.ref f16)))
    (l16 : K.lookup f16 = some ⟨oc16, od16, .func (PySem.W.fnOf "_law_spoilt" "_law_spoilt" (defArgs s_spoilt) (defBody s_spoilt) (defScope s_spoilt) .none kV16 dc16 pm16 an16 cd16 ct16), sl16⟩)
    (c16 : PySem.W.codeIn K cd16 "_law_spoilt" = true)
    (k16 : PySem.W.keepIn K (.ref f16) = true)
    (a17 : PySem.W.nsIn K mainGlobals "law" = some (some (.ref f17)))
    (l17 : K.lookup f17 = some ⟨oc17, od17, .func (PySem.W.fnOf "law" "law" (defArgs s_law) (defBody s_law) (defScope s_law) .none kV17 dc17 pm17 an17 cd17 ct17), sl17⟩)
    (c17 : PySem.W.codeIn K cd17 "law" = true)
    (k17 : PySem.W.keepIn K (.ref f17) = true)
    (z_len : PySem.W.nsIn K mainGlobals "len" = some none)
    (z_repr : PySem.W.nsIn K mainGlobals "repr" = some none)
    (z_abs : PySem.W.nsIn K mainGlobals "abs" = some none)
    (z_max : PySem.W.nsIn K mainGlobals "max" = some none)
    (z_int : PySem.W.nsIn K mainGlobals "int" = some none)
    (z_list : PySem.W.nsIn K mainGlobals "list" = some none)
    (z_range : PySem.W.nsIn K mainGlobals "range" = some none)
    (z_reversed : PySem.W.nsIn K mainGlobals "reversed" = some none)
    (z_min : PySem.W.nsIn K mainGlobals "min" = some none)
    (z_sorted : PySem.W.nsIn K mainGlobals "sorted" = some none)
    (z_tuple : PySem.W.nsIn K mainGlobals "tuple" = some none)
    (z_isinstance : PySem.W.nsIn K mainGlobals "isinstance" = some none)
    (z_all : PySem.W.nsIn K mainGlobals "all" = some none)
    (z_str : PySem.W.nsIn K mainGlobals "str" = some none)
    (z_zip : PySem.W.nsIn K mainGlobals "zip" = some none)
    (aBk : PySem.W.nsIn K mainGlobals "BACKS" = some (some (.ref aB)))
    (lB : K.lookup aB = some ⟨.type "dict", none, .dict es en, #[]⟩)
    (kB : PySem.W.KeysLit w.params es.toList)
    (aS : PySem.W.nsIn K mainGlobals "SMALL" = some (some (.str "abcdef" tS)))
    (kN : es.toList.map keyT = letters)
    (lo : (aB == sysModules) = false)
    (aM : PySem.W.nsIn K mainGlobals "MOST_MANY" = some (some (.int 6 tM)))
    (aMF : PySem.W.nsIn K mainGlobals "MOST_FIGURES" = some (some (.int 4 tF)))
    (aG : PySem.W.nsIn K mainGlobals "FIGURES" = some (some (.str "0123456789" tG)))
    (zE : PySem.W.nsIn K mainGlobals "enumerate" = some none)
    (aFk : PySem.W.nsIn K mainGlobals "FORMS" = some (some (.ref aF)))
    (lF : K.lookup aF = some ⟨.type "dict", none, .dict esF nF, #[]⟩)
    (kF : PySem.W.KeysLit w.params esF.toList)
    (loF : (aF == sysModules) = false)
    (fg0 : PySem.W.nsIn K aF "out" = some (some (.ref fa0)))
    (fl0 : K.lookup fa0 = some ⟨.type "tuple", fd0, .seq #[.str "number" ft0_0] fn0, fs0⟩)
    (fg1 : PySem.W.nsIn K aF "in" = some (some (.ref fa1)))
    (fl1 : K.lookup fa1 = some ⟨.type "tuple", fd1, .seq #[.str "number" ft1_0, .str "letter" ft1_1] fn1, fs1⟩)
    (fg2 : PySem.W.nsIn K aF "ring" = some (some (.ref fa2)))
    (fl2 : K.lookup fa2 = some ⟨.type "tuple", fd2, .seq #[.str "number" ft2_0, .str "turn" ft2_1, .str "number" ft2_2] fn2, fs2⟩)
    (kFN : esF.toList.map keyT = (["out", "in", "ring"] : List Str))
    (zV : PySem.W.nsIn K mainGlobals "ValueError" = some none)
    (aCR : PySem.W.nsIn K mainGlobals "RingError" = some (some (.ref CR)))
    (lCR : K.lookup CR = some ⟨.type "type", ddCR, .cls cdCR, #[sCR0, sCR1, sCR2, sCR3, some (.builtin "ValueError.__new__"), sCR5]⟩)
    (mCR : cdCR.mro = .ref CR :: bmV)
    (eCR : cdCR.hasDel = false)
    (dCR : cdCR.hasDict = true)
    (kCR : PySem.W.keepIn K (.ref CR) = true)
    (saCR : PySem.W.findIn K (.ref CR) "__setattr__" = some (some (.builtin "object.__setattr__")))
    (gaCR : PySem.W.findIn K (.ref CR) "__getattribute__" = some (some (.builtin "BaseException.__getattribute__")))
    (gnCR : PySem.W.findIn K (.ref CR) "__getattr__" = some (none))
    (caCR : PySem.W.findIn K (.ref CR) "__class__" = some (some (.builtin "object.__class__")))
    (nCR : cdCR.ns = nsCR)
    (oCR : K.lookup nsCR = some ⟨onCR, dnCR, .dict esCR nnCR, snCR⟩)
    (pCR : (esCR.toList.all fun e => match e.key with | .str _ _ => true | _ => false) = true)
    (qCR : PySem.W.nsIn K nsCR "__init__" = some none)
    (rdCR : PySem.W.readsIn K CR (.type "type") = true)
    (atCR : PySem.W.findCls K (.ref CR) (.type "type") "__init__" = some (.val (.builtin "ValueError.__init__")))
    (gtCR : PySem.W.specialIn K (.ref CR) "__getattribute__" = some (some (.builtin "type.__getattribute__")))
    (hdI : PySem.W.handedIn (.builtin "ValueError.__init__") = true)
    (cgt : PySem.W.specialIn K (.builtin "object.__class__") "__get__" = some (some (.builtin "getset_descriptor.__get__")))
    (ctk : PySem.W.takesIn K (.builtin "object.__class__") = some true)
    (aCT : PySem.W.nsIn K mainGlobals "NoText" = some (some (.ref CT)))
    (lCT : K.lookup CT = some ⟨.type "type", ddCT, .cls cdCT, #[sCT0, sCT1, sCT2, sCT3, some (.builtin "ValueError.__new__"), sCT5]⟩)
    (mCT : cdCT.mro = .ref CT :: .ref CR :: bmV)
    (eCT : cdCT.hasDel = false)
    (dCT : cdCT.hasDict = true)
    (kCT : PySem.W.keepIn K (.ref CT) = true)
    (saCT : PySem.W.findIn K (.ref CT) "__setattr__" = some (some (.builtin "object.__setattr__")))
    (gaCT : PySem.W.findIn K (.ref CT) "__getattribute__" = some (some (.builtin "BaseException.__getattribute__")))
    (gnCT : PySem.W.findIn K (.ref CT) "__getattr__" = some (none))
    (caCT : PySem.W.findIn K (.ref CT) "__class__" = some (some (.builtin "object.__class__")))
    (xCT0 : PySem.W.findIn K (.ref CT) "step" = some none)
    (xCT1 : PySem.W.findIn K (.ref CT) "word" = some none)
    (iCT : PySem.W.findIn K (.ref CT) "__init__" = some (some (.ref fCT)))
    (uCT : K.lookup fCT = some ⟨ocCT, odCT, .func (PySem.W.fnOf "__init__" "NoText.__init__" (defArgs i_text) (defBody i_text) (defScope i_text) .none kVCT dcCT pmCT anCT cvCT ctCT), slCT⟩)
    (vCT : PySem.W.codeIn K cvCT "NoText.__init__" = true)
    (wCT : PySem.W.keepIn K (.ref fCT) = true)
    (jCT : PySem.W.isFn K (.ref fCT) = true)
    (ak0 : PySem.W.nsIn K mainGlobals "NoBand" = some (some (.ref ck0)))
    (ak1 : PySem.W.nsIn K mainGlobals "NoPaper" = some (some (.ref ck1)))
    (ak2 : PySem.W.nsIn K mainGlobals "NoRow" = some (some (.ref ck2)))
    (ak3 : PySem.W.nsIn K mainGlobals "NoSlide" = some (some (.ref ck3)))
    (ak4 : PySem.W.nsIn K mainGlobals "NoStep" = some (some (.ref ck4)))
    (ak5 : PySem.W.nsIn K mainGlobals "NoSurface" = some (some (.ref ck5)))
    (ak6 : PySem.W.nsIn K mainGlobals "NoThin" = some (some (.ref ck6)))
    (ak7 : PySem.W.nsIn K mainGlobals "NoWay" = some (some (.ref ck7)))
    (lk0 : K.lookup ck0 = some ⟨.type "type", dk0, .cls xk0, sk0⟩)
    (nk0 : (Value.ref CT :: .ref CR :: bmV).contains (.ref ck0) = false)
    (lk1 : K.lookup ck1 = some ⟨.type "type", dk1, .cls xk1, sk1⟩)
    (nk1 : (Value.ref CT :: .ref CR :: bmV).contains (.ref ck1) = false)
    (lk2 : K.lookup ck2 = some ⟨.type "type", dk2, .cls xk2, sk2⟩)
    (nk2 : (Value.ref CT :: .ref CR :: bmV).contains (.ref ck2) = false)
    (lk3 : K.lookup ck3 = some ⟨.type "type", dk3, .cls xk3, sk3⟩)
    (nk3 : (Value.ref CT :: .ref CR :: bmV).contains (.ref ck3) = false)
    (lk4 : K.lookup ck4 = some ⟨.type "type", dk4, .cls xk4, sk4⟩)
    (nk4 : (Value.ref CT :: .ref CR :: bmV).contains (.ref ck4) = false)
    (lk5 : K.lookup ck5 = some ⟨.type "type", dk5, .cls xk5, sk5⟩)
    (nk5 : (Value.ref CT :: .ref CR :: bmV).contains (.ref ck5) = false)
    (lk6 : K.lookup ck6 = some ⟨.type "type", dk6, .cls xk6, sk6⟩)
    (nk6 : (Value.ref CT :: .ref CR :: bmV).contains (.ref ck6) = false)
    (lk7 : K.lookup ck7 = some ⟨.type "type", dk7, .cls xk7, sk7⟩)
    (nk7 : (Value.ref CT :: .ref CR :: bmV).contains (.ref ck7) = false)
    (gl0 : PySem.W.nsIn K aB "a" = some (some (.str "A" t0)))
    (gl1 : PySem.W.nsIn K aB "b" = some (some (.str "B" t1)))
    (gl2 : PySem.W.nsIn K aB "c" = some (some (.str "C" t2)))
    (gl3 : PySem.W.nsIn K aB "d" = some (some (.str "D" t3)))
    (gl4 : PySem.W.nsIn K aB "e" = some (some (.str "E" t4)))
    (gl5 : PySem.W.nsIn K aB "f" = some (some (.str "F" t5)))
    (gl6 : PySem.W.nsIn K aB "A" = some (some (.str "a" t6)))
    (gl7 : PySem.W.nsIn K aB "B" = some (some (.str "b" t7)))
    (gl8 : PySem.W.nsIn K aB "C" = some (some (.str "c" t8)))
    (gl9 : PySem.W.nsIn K aB "D" = some (some (.str "d" t9)))
    (gl10 : PySem.W.nsIn K aB "E" = some (some (.str "e" t10)))
    (gl11 : PySem.W.nsIn K aB "F" = some (some (.str "f" t11))) :
    ∃ fd : FuncData, (∀ (s : Shared) (v : Value), BindsTo s fd ⟨[v], []⟩ [("_law_script", v)]) ∧ ∀ base : Heap, K.In base → base.Ns mainGlobals mg → FnOk l.prog w K mg base CX0 7 fa fd ["_law_script"] (spLaw K) := by
  have e := hfa.symm.trans (PySem.W.mg_of X G a17)
  cases e
  have gB : ∀ x : L, ∃ t, PySem.W.nsIn K aB (toS [x]) = some (some (.str (toS [inv x]) t)) := by
    have q : ∀ (x : L) (u v : Str) (t : Tok), PySem.W.nsIn K aB u = some (some (.str v t)) → toS [x] = u → toS [inv x] = v → ∃ t, PySem.W.nsIn K aB (toS [x]) = some (some (.str (toS [inv x]) t)) := fun x u v t g e1 e2 => ⟨t, by rw [e1, e2]; exact g⟩
    intro x
    match x with
    | ⟨0, _⟩ => exact q 0 "a" "A" _ gl0 (by decide +kernel) (by decide +kernel)
    | ⟨1, _⟩ => exact q 1 "b" "B" _ gl1 (by decide +kernel) (by decide +kernel)
    | ⟨2, _⟩ => exact q 2 "c" "C" _ gl2 (by decide +kernel) (by decide +kernel)
    | ⟨3, _⟩ => exact q 3 "d" "D" _ gl3 (by decide +kernel) (by decide +kernel)
    | ⟨4, _⟩ => exact q 4 "e" "E" _ gl4 (by decide +kernel) (by decide +kernel)
    | ⟨5, _⟩ => exact q 5 "f" "F" _ gl5 (by decide +kernel) (by decide +kernel)
    | ⟨6, _⟩ => exact q 6 "A" "a" _ gl6 (by decide +kernel) (by decide +kernel)
    | ⟨7, _⟩ => exact q 7 "B" "b" _ gl7 (by decide +kernel) (by decide +kernel)
    | ⟨8, _⟩ => exact q 8 "C" "c" _ gl8 (by decide +kernel) (by decide +kernel)
    | ⟨9, _⟩ => exact q 9 "D" "d" _ gl9 (by decide +kernel) (by decide +kernel)
    | ⟨10, _⟩ => exact q 10 "E" "e" _ gl10 (by decide +kernel) (by decide +kernel)
    | ⟨11, _⟩ => exact q 11 "F" "f" _ gl11 (by decide +kernel) (by decide +kernel)
  have T : Bt K w mg aB := ⟨PySem.W.mg_none_of X G z_len, PySem.W.mg_none_of X G z_repr, PySem.W.mg_none_of X G z_abs, PySem.W.mg_none_of X G z_max, PySem.W.mg_none_of X G z_int, PySem.W.mg_none_of X G z_list, PySem.W.mg_none_of X G z_range, PySem.W.mg_none_of X G z_reversed, PySem.W.mg_none_of X G z_min, PySem.W.mg_none_of X G z_sorted, PySem.W.mg_none_of X G z_tuple, PySem.W.mg_none_of X G z_isinstance, PySem.W.mg_none_of X G z_all, PySem.W.mg_none_of X G z_str, PySem.W.mg_none_of X G z_zip, PySem.W.mg_of X G aBk, ⟨es, en, lB, kB⟩, gB⟩
  have B : Bk K aB := bk_mk lo lB kB kN
  have S : ∃ t, mg "SMALL" = some (.str "abcdef" t) := ⟨_, PySem.W.mg_of X G aS⟩
  have MM : ∃ t, mg "MOST_MANY" = some (.int 6 t) := ⟨_, PySem.W.mg_of X G aM⟩
  have MF : ∃ t, mg "MOST_FIGURES" = some (.int 4 t) := ⟨_, PySem.W.mg_of X G aMF⟩
  have MG : ∃ t, mg "FIGURES" = some (.str "0123456789" t) := ⟨_, PySem.W.mg_of X G aG⟩
  have Te : mg "enumerate" = none := PySem.W.mg_none_of X G zE
  have FM : FmG K w mg aF := ⟨PySem.W.mg_of X G aFk, ⟨esF, nF, lF, kF⟩, loF, fun z hz => form_no lF kF kFN hz, fun z f hf => by
    rcases form_cases hf with ⟨rfl, rfl⟩ | ⟨rfl, rfl⟩ | ⟨rfl, rfl⟩
    · exact ⟨fa0, fg0, fun H => .inr ⟨_, _, _, fl0, rfl, rfl, by show 1 ≤ sizeLine; decide, (.cons ⟨_, rfl⟩ .nil)⟩⟩
    · exact ⟨fa1, fg1, fun H => .inr ⟨_, _, _, fl1, rfl, rfl, by show 2 ≤ sizeLine; decide, (.cons ⟨_, rfl⟩ (.cons ⟨_, rfl⟩ .nil))⟩⟩
    · exact ⟨fa2, fg2, fun H => .inr ⟨_, _, _, fl2, rfl, rfl, by show 3 ≤ sizeLine; decide, (.cons ⟨_, rfl⟩ (.cons ⟨_, rfl⟩ (.cons ⟨_, rfl⟩ .nil)))⟩⟩⟩
  have XCR : XCl K CR bmV := xcl_of lCR mCR eCR dCR tail_base kCR
  have ACR : XAt K CR := ⟨⟨_, XCR⟩, saCR, gaCR, gnCR⟩
  have GCR : mg "RingError" = some (.ref CR) := PySem.W.mg_of X G aCR
  have BCR : XBase K CR := ⟨rdCR, atCR, gtCR, hdI⟩
  have XCT : XCl K CT (.ref CR :: bmV) := xcl_of lCT mCT eCT dCT (tail_own lCR (by rw [nCR]; exact nsok_of oCR pCR) (by rw [nCR]; exact qCR) tail_base) kCT
  have ACT : XAt K CT := ⟨⟨_, XCT⟩, saCT, gaCT, gnCT⟩
  have CCT : XCa K CT := ⟨ACT, caCT, cgt, ctk⟩
  have ICT := fun base : Heap => c_itext (P := l.prog) (w := w) (mg := mg) (base := base) (fun_mk uCT vCT wCT) BCR GCR ACT xCT0 xCT1
  have MCT : ∀ base : Heap, XMk l.prog w K mg base "NoText" CT ["step", "word"] 1 := fun base => ⟨PySem.W.mg_of X G aCT, CCT, by intro f hf; simp only [List.mem_cons, List.not_mem_nil, or_false] at hf; rcases hf with rfl | rfl <;> assumption, ⟨_, _, _, XCT, iCT, jCT, (ICT base).1, (ICT base).2⟩⟩
  have kA := kit_aside (Rs := [ck0, ck1, ck2, ck3, ck4, ck5, ck6, ck7]) XCT (by intro R hR; simp only [List.mem_cons, List.not_mem_nil, or_false] at hR; rcases hR with rfl | rfl | rfl | rfl | rfl | rfl | rfl | rfl; exact ⟨⟨_, _, _, lk0⟩, nk0⟩; exact ⟨⟨_, _, _, lk1⟩, nk1⟩; exact ⟨⟨_, _, _, lk2⟩, nk2⟩; exact ⟨⟨_, _, _, lk3⟩, nk3⟩; exact ⟨⟨_, _, _, lk4⟩, nk4⟩; exact ⟨⟨_, _, _, lk5⟩, nk5⟩; exact ⟨⟨_, _, _, lk6⟩, nk6⟩; exact ⟨⟨_, _, _, lk7⟩, nk7⟩)
  have TCL : TC K mg CT CR (.ref CR :: bmV) bmV (fun n => [ck0, ck1, ck2, ck3, ck4, ck5, ck6, ck7].getD n ck0) := ⟨PySem.W.mg_of X G aCT, PySem.W.mg_of X G aCR, PySem.W.mg_none_of X G zV, PySem.W.mg_of X G ak0, PySem.W.mg_of X G ak1, PySem.W.mg_of X G ak2, PySem.W.mg_of X G ak3, PySem.W.mg_of X G ak4, PySem.W.mg_of X G ak5, PySem.W.mg_of X G ak6, PySem.W.mg_of X G ak7, XCT, by simp, kA, kit_self, kit_ty X XCT rfl rfl, CCT, xCT0, xCT1⟩
  refine ⟨PySem.W.fnOf "law" "law" (defArgs s_law) (defBody s_law) (defScope s_law) .none kV17 dc17 pm17 an17 cd17 ct17, fun s v => .of_eq rfl, fun base _ _ => ?_⟩
  have F_letter := c_letter (P := l.prog) (w := w) (base := base) (df_mk X G a0 l0 c0 k0) T B
  have F_num := c_num (P := l.prog) (w := w) (base := base) (df_mk X G a2 l2 c2 k2) T S
  have F_word := c_word (P := l.prog) (w := w) (base := base) (df_mk X G a1 l1 c1 k1) T F_letter F_num
  have F_fig := c_fig (P := l.prog) (w := w) (base := base) (df_mk X G a6 l6 c6 k6) T MG MF
  have F_stand := c_stand (P := l.prog) (w := w) (base := base) (df_mk X G a5 l5 c5 k5) T MM F_fig F_letter F_word
  have F_wrong := c_wrong (P := l.prog) (w := w) (base := base) (df_mk X G a4 l4 c4 k4) T Te FM F_stand
  have F_stepof := c_stepof (P := l.prog) (w := w) (base := base) (df_mk X G a7 l7 c7 k7) T FM
  have F_read := c_read (P := l.prog) (w := w) (base := base) (df_mk X G a3 l3 c3 k3) T Te F_wrong F_stepof (MCT _)
  have F_feed := c_feed (P := l.prog) (w := w) (base := base) (df_mk X G a8 l8 c8 k8) T
  have F_draw := c_draw (P := l.prog) (w := w) (base := base) (df_mk X G a9 l9 c9 k9) T
  have F_isnum := c_isnum (P := l.prog) (w := w) (base := base) (df_mk X G a10 l10 c10 k10) T
  have F_fits := c_fits (P := l.prog) (w := w) (base := base) (df_mk X G a11 l11 c11 k11) T F_isnum
  have F_stepin := c_stepin (P := l.prog) (w := w) (base := base) (df_mk X G a12 l12 c12 k12) T F_isnum F_fits
  have F_due := c_due (P := l.prog) (w := w) (base := base) (df_mk X G a13 l13 c13 k13) T F_stepin
  have F_told := c_told (P := l.prog) (w := w) (base := base) (df_mk X G a14 l14 c14 k14) T TCL XCR F_read
  have F_good := c_good (P := l.prog) (w := w) (base := base) (df_mk X G a15 l15 c15 k15) T F_draw
  have F_spoilt := c_spoilt (P := l.prog) (w := w) (base := base) (df_mk X G a16 l16 c16 k16) T F_draw
  exact c_law (fun_mk l17 c17 k17) T F_feed F_draw F_good F_spoilt F_told F_due
theorem walk {l : PySem.W.OpenLaw} {q : Program} {loose : List Str} {XP : (Str → Option Value) → Heap → Prop} {YP : World → Heap → Prop} {d : DefRec} {K : Params → PySem.W.Frag} (hn : l.most = some 63) (hdf : d.params.defaults = [])
    (hY : ∀ (w : World) (h : Heap), YP w h → (K w.params).In h)
    (F : ∀ (w : World) (mg : Str → Option Value) (fa : Addr) (h : Heap), (K w.params).In h → h.Ns mainGlobals mg → mg d.name = some (.ref fa) →
      ∃ fd : FuncData, (∀ (s : Shared) (u : Value), BindsTo s fd ⟨[u], []⟩ [("_law_script", u)]) ∧ ∀ base : Heap, (K w.params).In base → base.Ns mainGlobals mg → FnOk l.prog w (K w.params) mg base CX0 7 fa fd ["_law_script"] (spLaw (K w.params))) :
    PySem.W.WalkO q loose XP YP l.row.toRowW d [] (fun f vs => PySem.call f vs) :=
  L2.walk_of (n := 63) (k := 7) (x := "_law_script") (CX := fun _ => CX0) (sp := fun w => spLaw (K w.params)) hn (by decide) hdf ⟨rfl, by decide, by decide, rfl⟩ hY F (fun _ _ a ns hl _ hS => ⟨a, ns, rfl, hS, hl, fun _ => rfl⟩) fun _ _ _ _ _ z => z
end Kx
theorem PySem.W.Fast.te17939892865270242378 : True := trivial
open PySem PySem.W PyProof.Rows
set_option maxRecDepth 100000 in
set_option maxHeartbeats 0 in
theorem PySem.Challenge.cw_ringwords_k12_texts_that_write_no_steps_holds : PySem.Challenge.rw_ringwords_k12_texts_that_write_no_steps.Holds := by
  w_on; o_law; k_head; (case hw => w_witness2)
  k_fill
  refine Kx.walk (l := PySem.Challenge.rw_ringwords_k12_texts_that_write_no_steps) rfl rfl (fun w h Y => PySem.W.kIn_of Y) ?F
  case F =>
    intro w mg fa h KX G hmg
    refine' Kx.all_mk KX G hmg ?a0 ?l0 ?c0 ?k0 ?a1 ?l1 ?c1 ?k1 ?a2 ?l2 ?c2 ?k2 ?a3 ?l3 ?c3 ?k3 ?a4 ?l4 ?c4 ?k4 ?a5 ?l5 ?c5 ?k5 ?a6 ?l6 ?c6 ?k6 ?a7 ?l7 ?c7 ?k7 ?a8 ?l8 ?c8 ?k8 ?a9 ?l9 ?c9 ?k9 ?a10 ?l10 ?c10 ?k10 ?a11 ?l11 ?c11 ?k11 ?a12 ?l12 ?c12 ?k12 ?a13 ?l13 ?c13 ?k13 ?a14 ?l14 ?c14 ?k14 ?a15 ?l15 ?c15 ?k15 ?a16 ?l16 ?c16 ?k16 ?a17 ?l17 ?c17 ?k17 ?z_len ?z_repr ?z_abs ?z_max ?z_int ?z_list ?z_range ?z_reversed ?z_min ?z_sorted ?z_tuple ?z_isinstance ?z_all ?z_str ?z_zip ?aBk ?lB ?kB ?aS ?kN ?lo ?aM ?aMF ?aG ?zE ?aFk ?lF ?kF ?loF ?fg0 ?fl0 ?fg1 ?fl1 ?fg2 ?fl2 ?kFN ?zV ?aCR ?lCR ?mCR ?eCR ?dCR ?kCR ?saCR ?gaCR ?gnCR ?caCR ?nCR ?oCR ?pCR ?qCR ?rdCR ?atCR ?gtCR ?hdI ?cgt ?ctk ?aCT ?lCT ?mCT ?eCT ?dCT ?kCT ?saCT ?gaCT ?gnCT ?caCT ?xCT0 ?xCT1 ?iCT ?uCT ?vCT ?wCT ?jCT ?ak0 ?ak1 ?ak2 ?ak3 ?ak4 ?ak5 ?ak6 ?ak7 ?lk0 ?nk0 ?lk1 ?nk1 ?lk2 ?nk2 ?lk3 ?nk3 ?lk4 ?nk4 ?lk5 ?nk5 ?lk6 ?nk6 ?lk7 ?nk7 ?gl0 ?gl1 ?gl2 ?gl3 ?gl4 ?gl5 ?gl6 ?gl7 ?gl8 ?gl9 ?gl10 ?gl11
    (case a0 => k_is)
    (case l0 => k_is)
    (case c0 => k_is)
    (case k0 => k_is)
    (case a1 => k_is)
    (case l1 => k_is)
    (case c1 => k_is)
    (case k1 => k_is)
    (case a2 => k_is)
    (case l2 => k_is)
    (case c2 => k_is)
    (case k2 => k_is)
    (case a3 => k_is)
    (case l3 => k_is)
    (case c3 => k_is)
    (case k3 => k_is)
    (case a4 => k_is)
    (case l4 => k_is)
    (case c4 => k_is)
    (case k4 => k_is)
    (case a5 => k_is)
    (case l5 => k_is)
    (case c5 => k_is)
    (case k5 => k_is)
    (case a6 => k_is)
    (case l6 => k_is)
    (case c6 => k_is)
    (case k6 => k_is)
    (case a7 => k_is)
    (case l7 => k_is)
    (case c7 => k_is)
    (case k7 => k_is)
    (case a8 => k_is)
    (case l8 => k_is)
    (case c8 => k_is)
    (case k8 => k_is)
    (case a9 => k_is)
    (case l9 => k_is)
    (case c9 => k_is)
    (case k9 => k_is)
    (case a10 => k_is)
    (case l10 => k_is)
    (case c10 => k_is)
    (case k10 => k_is)
    (case a11 => k_is)
    (case l11 => k_is)
    (case c11 => k_is)
    (case k11 => k_is)
    (case a12 => k_is)
    (case l12 => k_is)
    (case c12 => k_is)
    (case k12 => k_is)
    (case a13 => k_is)
    (case l13 => k_is)
    (case c13 => k_is)
    (case k13 => k_is)
    (case a14 => k_is)
    (case l14 => k_is)
    (case c14 => k_is)
    (case k14 => k_is)
    (case a15 => k_is)
    (case l15 => k_is)
    (case c15 => k_is)
    (case k15 => k_is)
    (case a16 => k_is)
    (case l16 => k_is)
    (case c16 => k_is)
    (case k16 => k_is)
    (case a17 => k_is)
    (case l17 => k_is)
    (case c17 => k_is)
    (case k17 => k_is)
    (case z_len => k_is)
    (case z_repr => k_is)
    (case z_abs => k_is)
    (case z_max => k_is)
    (case z_int => k_is)
    (case z_list => k_is)
    (case z_range => k_is)
    (case z_reversed => k_is)
    (case z_min => k_is)
    (case z_sorted => k_is)
    (case z_tuple => k_is)
    (case z_isinstance => k_is)
    (case z_all => k_is)
    (case z_str => k_is)
    (case z_zip => k_is)
    (case aBk => k_is)
    (case lB => k_is)
    (case kB => exact ⟨⟨_, _, rfl, rfl⟩, ⟨_, _, rfl, rfl⟩, ⟨_, _, rfl, rfl⟩, ⟨_, _, rfl, rfl⟩, ⟨_, _, rfl, rfl⟩, ⟨_, _, rfl, rfl⟩, ⟨_, _, rfl, rfl⟩, ⟨_, _, rfl, rfl⟩, ⟨_, _, rfl, rfl⟩, ⟨_, _, rfl, rfl⟩, ⟨_, _, rfl, rfl⟩, ⟨_, _, rfl, rfl⟩, trivial⟩)
    (case aS => k_is)
    (case kN => rfl)
    (case lo => rfl)
    (case aM => k_is)
    (case aMF => k_is)
    (case aG => k_is)
    (case zE => k_is)
    (case aFk => k_is)
    (case lF => k_is)
    (case kF => exact ⟨⟨_, _, rfl, rfl⟩, ⟨_, _, rfl, rfl⟩, ⟨_, _, rfl, rfl⟩, trivial⟩)
    (case loF => rfl)
    (case fg0 => k_is)
    (case fl0 => k_is)
    (case fg1 => k_is)
    (case fl1 => k_is)
    (case fg2 => k_is)
    (case fl2 => k_is)
    (case kFN => rfl)
    (case zV => k_is)
    (case aCR => k_is)
    (case lCR => k_is)
    (case mCR => rfl)
    (case eCR => rfl)
    (case dCR => rfl)
    (case kCR => k_is)
    (case saCR => k_is)
    (case gaCR => k_is)
    (case gnCR => k_is)
    (case caCR => k_is)
    (case nCR => rfl)
    (case oCR => k_is)
    (case pCR => rfl)
    (case qCR => k_is)
    (case rdCR => k_is)
    (case atCR => k_is)
    (case gtCR => k_is)
    (case hdI => rfl)
    (case cgt => k_is)
    (case ctk => k_is)
    (case aCT => k_is)
    (case lCT => k_is)
    (case mCT => rfl)
    (case eCT => rfl)
    (case dCT => rfl)
    (case kCT => k_is)
    (case saCT => k_is)
    (case gaCT => k_is)
    (case gnCT => k_is)
    (case caCT => k_is)
    (case xCT0 => k_is)
    (case xCT1 => k_is)
    (case iCT => k_is)
    (case uCT => k_is)
    (case vCT => k_is)
    (case wCT => k_is)
    (case jCT => k_is)
    (case ak0 => k_is)
    (case ak1 => k_is)
    (case ak2 => k_is)
    (case ak3 => k_is)
    (case ak4 => k_is)
    (case ak5 => k_is)
    (case ak6 => k_is)
    (case ak7 => k_is)
    (case lk0 => k_is)
    (case nk0 => rfl)
    (case lk1 => k_is)
    (case nk1 => rfl)
    (case lk2 => k_is)
    (case nk2 => rfl)
    (case lk3 => k_is)
    (case nk3 => rfl)
    (case lk4 => k_is)
    (case nk4 => rfl)
    (case lk5 => k_is)
    (case nk5 => rfl)
    (case lk6 => k_is)
    (case nk6 => rfl)
    (case lk7 => k_is)
    (case nk7 => rfl)
    (case gl0 => k_is)
    (case gl1 => k_is)
    (case gl2 => k_is)
    (case gl3 => k_is)
    (case gl4 => k_is)
    (case gl5 => k_is)
    (case gl6 => k_is)
    (case gl7 => k_is)
    (case gl8 => k_is)
    (case gl9 => k_is)
    (case gl10 => k_is)
    (case gl11 => k_is)
