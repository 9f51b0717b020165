import PyProof.Rows.All
import Wide.All
import OpenK.AllK
import Wide.FinOn
import Lean
import PyProof.EqAt
import PyProof.EqKinds
import PyProof.TupleCall
import KE.KRevIter
import PyProof.ExcInit
import PyProof.InstStoreFacts
import PyProof.NsDelKeeps
import PyProof.FString5
import PyProof.NeData
import PyProof.TupleOfStr
import PyProof.IsRules
import PyProof.ListRange
import PyProof.FactsAll.tuple_3
import PyProof.SeqRoads
import PyProof.FactsAll.range_1
import PySem.Challenge.RW_ringwords_k71_glued
set_option Elab.async false
set_option linter.all false
set_option maxRecDepth 100000
namespace L2
open PySem PySem.Spec PyProof.Rows

noncomputable abbrev Key := Sum Int Str
noncomputable def keyIs : Key → Value → Bool
  | .inl k, v => Value.isInt k v
  | .inr x, v => Value.isStrOf x v
noncomputable def keyH (w : World) : Key → Int
  | .inl k => hashInt k
  | .inr x => hashStr w x
theorem keyIs_shape : ∀ {k : Key} {v : Value}, keyIs k v = true → (∃ i t, k = Sum.inl i ∧ v = Value.int i t) ∨ (∃ x t, k = Sum.inr x ∧ v = Value.str x t)
  | .inl i, v, h => by
    obtain ⟨t, e⟩ := Value.isInt_shape (k := i) (v := v) h
    exact .inl ⟨i, t, rfl, e⟩
  | .inr x, v, h => by
    obtain ⟨t, e⟩ := Value.isStrOf_shape (x := x) (v := v) h
    exact .inr ⟨x, t, rfl, e⟩
theorem keyIs_int (i : Int) (t : Tok) : keyIs (.inl i) (.int i t) = true := by simp [keyIs, Value.isInt]
theorem keyIs_str (x : Str) (t : Tok) : keyIs (.inr x) (.str x t) = true := by simp [keyIs, Value.isStrOf]
theorem key_ll (a b : Int) : decide ((Sum.inl a : Key) = Sum.inl b) = (a == b) := by
  by_cases e : a = b
  · subst e; simp
  · have h : ¬ (Sum.inl a : Key) = Sum.inl b := fun q => e (Sum.inl.inj q)
    rw [decide_eq_false h]
    exact (beq_eq_false_iff_ne.mpr e).symm
theorem key_rr (a b : Str) : decide ((Sum.inr a : Key) = Sum.inr b) = decide (a = b) := by
  by_cases e : a = b
  · subst e; simp
  · have h : ¬ (Sum.inr a : Key) = Sum.inr b := fun q => e (Sum.inr.inj q)
    rw [decide_eq_false h, decide_eq_false e]
theorem key_lr (a : Int) (b : Str) : decide ((Sum.inl a : Key) = Sum.inr b) = false := decide_eq_false (fun q => nomatch q)
theorem key_rl (a : Str) (b : Int) : decide ((Sum.inr a : Key) = Sum.inl b) = false := decide_eq_false (fun q => nomatch q)

noncomputable def mixKind (prog : Program) (w : World) : PySem.KeyKind prog w Key where
  is := keyIs
  hash := keyH w
  inj := fun v a b ha hb => by
    rcases keyIs_shape ha with ⟨i, t, rfl, rfl⟩ | ⟨x, t, rfl, rfl⟩
    · rcases keyIs_shape hb with ⟨j, u, rfl, e⟩ | ⟨y, u, rfl, e⟩
      · injection e with e1 _; rw [e1]
      · exact nomatch e
    · rcases keyIs_shape hb with ⟨j, u, rfl, e⟩ | ⟨y, u, rfl, e⟩
      · exact nomatch e
      · injection e with e1 _; rw [e1]
  byValue := fun k v h => by
    rcases keyIs_shape h with ⟨i, t, rfl, rfl⟩ | ⟨x, t, rfl, rfl⟩ <;> rfl
  pyHash := fun hv h => by
    rcases keyIs_shape hv with ⟨i, t, rfl, rfl⟩ | ⟨x, t, rfl, rfl⟩
    · exact wpAny_pyHash_int h
    · exact wpAny_pyHash_str h
  eqBool := fun hu hv h => by
    rcases keyIs_shape hu with ⟨i, t, rfl, rfl⟩ | ⟨x, t, rfl, rfl⟩
    · rcases keyIs_shape hv with ⟨j, u, rfl, rfl⟩ | ⟨y, u, rfl, rfl⟩
      · rw [key_ll] at h; exact wpAny_eqBool_int h
      · rw [key_lr] at h; exact SeqAt.EqAt.int_str i t y u _ _ _ _ h
    · rcases keyIs_shape hv with ⟨j, u, rfl, rfl⟩ | ⟨y, u, rfl, rfl⟩
      · rw [key_rl] at h; exact SeqAt.EqAt.str_int x t j u _ _ _ _ h
      · rw [key_rr] at h; exact wpAny_eqBool_str h
  «strs» := fun k x t v h => by
    rcases keyIs_shape h with ⟨i, u, rfl, e⟩ | ⟨y, u, rfl, e⟩
    · exact nomatch e
    · injection e with e1 _
      subst e1
      cases v <;> rfl

theorem mixKind_int (prog : Program) (w : World) (i : Int) (t : Tok) : (mixKind prog w).is (.inl i) (.int i t) = true := keyIs_int i t
theorem mixKind_str (prog : Program) (w : World) (x : Str) (t : Tok) : (mixKind prog w).is (.inr x) (.str x t) = true := keyIs_str x t
end L2

namespace L2
open PySem PySem.Spec PyProof.Rows

inductive V where
  | non | bl (b : Bool) | int (i : Int) | str (x : Str) | byt (b : Array UInt8) | flt (b : UInt64) | ref (a : Addr) | ty (n : String) | tks (x : Str) (t : Tok)
  deriving DecidableEq

noncomputable def RelV : V → Value → Prop
  | .non, u => u = Value.none
  | .bl b, u => u = Value.bool b
  | .int i, u => ∃ t, u = Value.int i t
  | .str x, u => ∃ t, u = Value.str x t
  | .byt b, u => ∃ t, u = Value.bytes b t
  | .flt b, u => ∃ t, u = Value.float b t
  | .ref a, u => u = Value.ref a
  | .ty n, u => u = Value.type n
  | .tks x t, u => u = Value.str x t
noncomputable def V.pl : V → Bool
  | .tks .. => false
  | _ => true

noncomputable abbrev Vals : List V → List Value → Prop := Paired RelV
theorem Vals.length {xs : List V} {us : List Value} (r : Vals xs us) : xs.length = us.length := Paired.length r
theorem Vals.get : ∀ {xs : List V} {us : List Value} {i : Nat} {x : V}, Vals xs us → xs[i]? = some x → ∃ u, us[i]? = some u ∧ RelV x u
  | _, _, _, _, .nil, e => by simp at e
  | _, _, 0, _, .cons r _, e => by simp at e; subst e; exact ⟨_, rfl, r⟩
  | _, _, i + 1, x, .cons _ t, e => by
    obtain ⟨u, h1, h2⟩ := Vals.get (i := i) (x := x) t (by simpa using e)
    exact ⟨u, by simpa using h1, h2⟩
theorem Vals.append : ∀ {xs ys : List V} {us ws : List Value}, Vals xs us → Vals ys ws → Vals (xs ++ ys) (us ++ ws)
  | _, _, _, _, .nil, s => s
  | _, _, _, _, .cons r t, s => .cons r (Vals.append t s)
theorem Vals.take : ∀ {xs : List V} {us : List Value} (n : Nat), Vals xs us → Vals (xs.take n) (us.take n)
  | _, _, 0, _ => .nil
  | _, _, _ + 1, .nil => .nil
  | _, _, n + 1, .cons r t => .cons r (Vals.take n t)
theorem Vals.drop : ∀ {xs : List V} {us : List Value} (n : Nat), Vals xs us → Vals (xs.drop n) (us.drop n)
  | _, _, 0, r => r
  | _, _, _ + 1, .nil => .nil
  | _, _, n + 1, .cons _ t => Vals.drop n t

noncomputable def RelO : Option V → Option Value → Prop
  | some v, some u => RelV v u
  | none, none => True
  | _, _ => False
noncomputable def KV {κ : Type} : List (κ × V) → List (κ × Value) → Prop := Paired fun (p : κ × V) (q : κ × Value) => p.1 = q.1 ∧ RelV p.2 q.2

noncomputable def kV : Key → V
  | .inl i => .int i
  | .inr x => .str x

inductive HO where
  | lst (xs : List V)
  | tup (xs : List V)
  | dK (kvs : List (Key × V)) | dT (kvs : List (List Key × V))
  | set (S : Int → Bool) (n : Nat)
  | ins (C dx : Addr) (fs : List (Str × V))
  | own (x : Addr)
  | xd (fs : List (Str × V))
  | met (f x : Addr)
  | rng (lo hi : Int)
  | frz (o : Obj) (u : HO)
  | tbl (ps : Array Value)
  | ext (φ : Heap → Prop)

noncomputable abbrev Hp := Addr → Option HO
noncomputable def upd (H : Hp) (a : Addr) (o : HO) : Hp := fun b => if b = a then some o else H b
theorem upd_same {H : Hp} {a : Addr} {o : HO} : upd H a o a = some o := by unfold upd; rw [if_pos rfl]
theorem upd_ne {H : Hp} {a b : Addr} {o : HO} (h : b ≠ a) : upd H a o b = H b := by unfold upd; rw [if_neg h]
theorem upd_upd {H : Hp} {a : Addr} {o u : HO} : upd (upd H a o) a u = upd H a u := by
  funext b; unfold upd; split <;> rfl
theorem ne_of {H : Hp} {a b : Addr} {o u : HO} (h : H a = some o) (h' : H b = some u) (d : o ≠ u) : a ≠ b := by
  intro e; subst e; rw [h] at h'; exact d (Option.some.inj h')
theorem ne_of_none {H : Hp} {a b : Addr} {o : HO} (h : H a = some o) (h' : H b = none) : a ≠ b := by
  intro e; subst e; rw [h] at h'; cases h'

section
variable (P : Program) (w : World)
noncomputable def NoD (h : Heap) (a : Addr) : Prop := ∃ o, h.get? a = some o ∧ o.dict = none
theorem NoD.new (h : Heap) (o : Obj) (e : o.dict = none) (hf : o.isFreed = false := by rfl) : NoD (h.push o) h.objs.size := ⟨o, Heap.get?_push_size _ hf, e⟩
noncomputable def ObjOk (H : Hp) (h : Heap) (a : Addr) : HO → Prop
  | .lst xs => xs.length ≤ sizeLine ∧ ∃ (its : List Value) (n : Nat), Vals xs its ∧ h.get? a = some { cls := .type "list", data := .seq its.toArray n }
  | .tup xs => xs.length ≤ sizeLine ∧ ∃ its : List Value, Vals xs its ∧ IsTup h a its.toArray ∧ NoD h a
  | .dK kvs => kvs.length ≤ sizeLine ∧ (a == sysModules) = false ∧ ∃ vs, KV kvs vs ∧ h.DictOf (mixKind P w) a vs
  | .dT kvs => kvs.length ≤ sizeLine ∧ (a == sysModules) = false ∧ ∃ xs : List (List Key × Addr × Value),
      Paired (fun (p : List Key × V) (q : List Key × Addr × Value) => p.1 = q.1 ∧ H q.2.1 = some (.tup (p.1.map kV)) ∧ RelV p.2 q.2.2) kvs xs ∧
      ∃ o es ep, h.get? a = some o ∧ o.ExactDict ∧ o.data = .dict es ep ∧ es.toList = xs.map (entryOfKey (tupleKind (mixKind P w))) ∧ (xs.map (·.1)).Nodup
  | .set S n => h.SetOf (intKind P w) a S n
  | .ins C dx fs => H dx = some (.own a) ∧ fs.length ≤ 1000 ∧ dx ≠ a ∧ h.get? a = some (PySem.W.instObj C dx) ∧
      ∃ mA, h.Ns1 dx mA ∧ (∀ f, RelO (fs.lookup f) (mA f)) ∧ PySem.Within mA (fs.map (·.1))
  | .own _ => ∃ o, h.get? a = some o
  | .xd fs => ∃ mA, h.Ns1 a mA ∧ ∀ f, RelO (fs.lookup f) (mA f)
  | .rng lo hi => ∃ t u v, h.get? a = some { cls := .type "range", data := .fields #[.int lo t, .int hi u, .int 1 v] }
  | .frz o u => h.get? a = some o ∧ ObjOk H h a u
  | .tbl ps => h.get? a = some { cls := .none, data := .fields ps }
  | .met f x => h.get? a = some (PySem.W.methodObj (.ref f) (.ref x))
  | .ext φ => φ h ∧ (∃ o, h.get? a = some o) ∧ ∀ h1 h2 : Heap, φ h1 → (∀ o, h1.get? a = some o → h2.get? a = some o) → φ h2
noncomputable def HOk (H : Hp) (h : Heap) : Prop := ∀ a o, H a = some o → ObjOk P w H h a o
end

section
variable {P : Program} {w : World} {H H' : Hp} {h h' : Heap} {a : Addr} {o : HO}
theorem ObjOk.lt (x : ObjOk P w H h a o) : a < h.objs.size := by
  cases o with
  | lst xs => obtain ⟨_, _, _, _, e⟩ := x; exact Heap.lt_size e
  | tup xs => obtain ⟨_, _, _, p, _⟩ := x; exact p.lt
  | dK kvs => obtain ⟨_, _, _, _, o, _, _, e, _⟩ := x; exact Heap.lt_size e
  | dT kvs => obtain ⟨_, _, _, _, o, _, _, e, _⟩ := x; exact Heap.lt_size e
  | set S n => obtain ⟨o, _, _, _, e, _⟩ := x; exact Heap.lt_size e
  | ins C dx fs => obtain ⟨_, _, _, e, _⟩ := x; exact Heap.lt_size e
  | own y => obtain ⟨_, e⟩ := x; exact Heap.lt_size e
  | xd fs => obtain ⟨_, ⟨_, _, _, e, _⟩, _⟩ := x; exact Heap.lt_size e
  | rng lo hi => obtain ⟨_, _, _, e⟩ := x; exact Heap.lt_size e
  | frz ob u => obtain ⟨e, _⟩ := x; exact Heap.lt_size e
  | tbl ps => exact Heap.lt_size (show h.get? a = some _ from x)
  | met f y => exact Heap.lt_size (show h.get? a = some _ from x)
  | ext φ => obtain ⟨_, ⟨_, e⟩, _⟩ := x; exact Heap.lt_size e
theorem Paired.mapP {α β : Type} {F G : α → β → Prop} : ∀ {l₁ : List α} {l₂ : List β}, Paired F l₁ l₂ → (∀ a b, F a b → G a b) → Paired G l₁ l₂
  | _, _, .nil, _ => .nil
  | _, _, .cons r t, f => .cons (f _ _ r) (Paired.mapP t f)
theorem ObjOk.stay (x : ObjOk P w H h a o) (k : ∀ b u, (b = a ∨ H b = some (.own a)) → h.get? b = some u → h'.get? b = some u)
    (ho : ∀ b, H b = some (.own a) → H' b = some (.own a)) (ht : ∀ b xs, H b = some (.tup xs) → H' b = some (.tup xs)) : ObjOk P w H' h' a o := by
  induction o with
  | lst xs => obtain ⟨z, its, n, r, e⟩ := x; exact ⟨z, its, n, r, k _ _ (.inl rfl) e⟩
  | tup xs => obtain ⟨z, its, r, ⟨ob, e, c⟩, o2, e2, c2⟩ := x; exact ⟨z, its, r, ⟨ob, k _ _ (.inl rfl) e, c⟩, o2, k _ _ (.inl rfl) e2, c2⟩
  | dK kvs => obtain ⟨z, y, vs, r, ob, es, ep, e, c⟩ := x; exact ⟨z, y, vs, r, ob, es, ep, k _ _ (.inl rfl) e, c⟩
  | dT kvs =>
    obtain ⟨z, y, xs, r, ob, es, ep, e, c⟩ := x
    exact ⟨z, y, xs, Paired.mapP r fun p q z => ⟨z.1, ht _ _ z.2.1, z.2.2⟩, ob, es, ep, k _ _ (.inl rfl) e, c⟩
  | set S n => obtain ⟨ob, es, ep, t, e, c⟩ := x; exact ⟨ob, es, ep, t, k _ _ (.inl rfl) e, c⟩
  | ins C dx fs =>
    obtain ⟨d, z, ne, e, mA, ⟨od, es, ep, e2, c⟩, r⟩ := x
    exact ⟨ho _ d, z, ne, k _ _ (.inl rfl) e, mA, ⟨od, es, ep, k _ _ (.inr d) e2, c⟩, r⟩
  | own y => obtain ⟨ob, e⟩ := x; exact ⟨ob, k _ _ (.inl rfl) e⟩
  | xd fs => obtain ⟨mA, ⟨od, es, ep, e, c⟩, r⟩ := x; exact ⟨mA, ⟨od, es, ep, k _ _ (.inl rfl) e, c⟩, r⟩
  | rng lo hi => obtain ⟨t, u, v, e⟩ := x; exact ⟨t, u, v, k _ _ (.inl rfl) e⟩
  | frz ob u ih => obtain ⟨e, q⟩ := x; exact ⟨k _ _ (.inl rfl) e, ih q⟩
  | tbl ps =>
    have e : h.get? a = some { cls := .none, data := .fields ps } := x
    show h'.get? a = some { cls := .none, data := .fields ps }
    exact k a _ (.inl rfl) e
  | met f y =>
    have e : h.get? a = some (PySem.W.methodObj (.ref f) (.ref y)) := x
    show h'.get? a = some (PySem.W.methodObj (.ref f) (.ref y))
    exact k a _ (.inl rfl) e
  | ext φ => obtain ⟨p, ⟨o, e⟩, st⟩ := x; exact ⟨st _ _ p fun o q => k _ _ (.inl rfl) q, ⟨o, k _ _ (.inl rfl) e⟩, st⟩
theorem HOk.lt (x : HOk P w H h) (e : H a = some o) : a < h.objs.size := (x a o e).lt
theorem HOk.fresh (x : HOk P w H h) (e : h.objs.size ≤ a) : H a = none := by
  cases q : H a with
  | none => rfl
  | some u => exact absurd (Nat.lt_of_lt_of_le (x.lt q) e) (Nat.lt_irrefl _)
theorem HOk.kept (x : HOk P w H h) (k : ∀ b u, h.get? b = some u → h'.get? b = some u) : HOk P w H h' := fun a o e =>
  (x a o e).stay (fun b u _ q => k b u q) (fun _ q => q) fun _ _ q => q
theorem HOk.laid (x : HOk P w H h) (k : ∀ b u, h.get? b = some u → h'.get? b = some u) (hp : h.objs.size ≤ a) (new : ObjOk P w (upd H a o) h' a o) : HOk P w (upd H a o) h' := fun b u e => by
  have hn := x.fresh hp
  by_cases hb : b = a
  · subst hb; rw [upd_same] at e; cases e; exact new
  · rw [upd_ne hb] at e
    exact (x b u e).stay (fun c v _ q => k c v q) (fun c q => by rw [upd_ne (ne_of_none q hn)]; exact q) fun c xs q => by rw [upd_ne (ne_of_none q hn)]; exact q
end

noncomputable def Rd (H : Hp) (a : Addr) (u : HO) : Prop := H a = some u ∨ ∃ o, H a = some (.frz o u)
theorem Rd.ok {P : Program} {w : World} {H : Hp} {h : Heap} {a : Addr} {u : HO} (r : Rd H a u) (x : HOk P w H h) : ObjOk P w H h a u := by
  rcases r with r | ⟨o, r⟩
  · exact x a u r
  · obtain ⟨_, q⟩ := x a _ r
    exact q
noncomputable def Mut : Option HO → Prop
  | some (.lst _) => True
  | some (.dK _) => True
  | some (.dT _) => True
  | some (.set _ _) => True
  | some (.ins _ _ _) => True
  | some (.ext _) => True
  | _ => False
section
variable {P : Program} {w : World} {H : Hp} {h h' : Heap} {x e : Addr} {o' : HO}
theorem HOk.write (ok : HOk P w H h) (mu : Mut (H x)) (he : e = x ∨ H e = some (.own x)) (k : ∀ b u, b ≠ e → h.get? b = some u → h'.get? b = some u) (heo : ∃ u, h'.get? e = some u)
    (new : ObjOk P w (upd H x o') h' x o') : HOk P w (upd H x o') h' := fun b u q => by
  have nown : ∀ c y, H c = some (.own y) → c ≠ x := fun c y r z => by subst z; rw [r] at mu; exact mu
  have ntup : ∀ c xs, H c = some (.tup xs) → c ≠ x := fun c xs r z => by subst z; rw [r] at mu; exact mu
  by_cases hb : b = x
  · subst hb; rw [upd_same] at q; cases q; exact new
  · rw [upd_ne hb] at q
    by_cases hbe : b = e
    · have q' : H b = some (.own x) := by
        rcases he with z | z
        · exact absurd (hbe.trans z) hb
        · rw [hbe]; exact z
      rw [q] at q'; cases q'
      obtain ⟨v, hv⟩ := heo
      exact ⟨v, by rw [hbe]; exact hv⟩
    · refine (ok b u q).stay (fun c v hc r => k c v ?_ r) (fun c r => by rw [upd_ne (nown c b r)]; exact r) fun c xs r => by rw [upd_ne (ntup c xs r)]; exact r
      rcases hc with rfl | hc
      · exact hbe
      · rintro rfl
        rcases he with z | z
        · exact nown c b hc z
        · rw [hc] at z; cases z; exact hb rfl
end

structure Un (fs ex : List Addr) (H H' : Hp) (h h' : Heap) : Prop where
  keep : ∀ b o, h.get? b = some o → H b = none → b ∉ fs → b ∉ ex → h'.get? b = some o
  slot : ∀ b o, h.get? b = some o → H b = none → b ∈ fs → b ∉ ex → ∃ sl, h'.get? b = some { o with slots := sl }
  free : ∀ b o, h.get? b = some o → H b = none → b ∉ ex → H' b = none
  there : ∀ b o, h.get? b = some o → b ∉ ex → ∃ o', h'.get? b = some o'
  tups : ∀ b xs, H b = some (.tup xs) → H' b = some (.tup xs)
  frzs : ∀ b o u, H b = some (.frz o u) → H' b = some (.frz o u)
  tbls : ∀ b ps, H b = some (.tbl ps) → ∃ more, H' b = some (.tbl (ps ++ more))
section
variable {fs fs' ex ex' : List Addr} {H H1 H2 : Hp} {h h1 h2 h' : Heap} {a x e : Addr} {o : HO}
theorem Un.any (u : Un fs ex H H1 h h1) {b : Addr} {ob : Obj} (q : h.get? b = some ob) (n : H b = none) (hx : b ∉ ex) : ∃ sl, h1.get? b = some { ob with slots := sl } := by
  by_cases hb : b ∈ fs
  · exact u.slot b ob q n hb hx
  · exact ⟨ob.slots, u.keep b ob q n hb hx⟩
theorem Un.kept (k : ∀ b u, h.get? b = some u → h'.get? b = some u) : Un fs ex H H h h' :=
  ⟨fun b ob q _ _ _ => k b ob q, fun b ob q _ _ _ => ⟨ob.slots, k b ob q⟩, fun _ _ _ n _ => n, fun b ob q _ => ⟨ob, k b ob q⟩, fun _ _ q => q, fun _ _ _ q => q, fun _ ps q => ⟨#[], by rw [q]; simp⟩⟩
theorem Un.refl : Un fs ex H H h h := Un.kept fun _ _ q => q
theorem Un.laid (k : ∀ b u, h.get? b = some u → h'.get? b = some u) (hp : h.objs.size ≤ a) (hn : H a = none) : Un fs ex H (upd H a o) h h' where
  keep := fun b u q _ _ _ => k b u q
  slot := fun b u q _ _ _ => ⟨u.slots, k b u q⟩
  free := fun b u q n _ => by rw [upd_ne (Nat.ne_of_lt (Nat.lt_of_lt_of_le (Heap.lt_size q) hp))]; exact n
  there := fun b u q _ => ⟨u, k b u q⟩
  tups := fun b xs q => by rw [upd_ne (ne_of_none q hn)]; exact q
  frzs := fun b u xs q => by rw [upd_ne (ne_of_none q hn)]; exact q
  tbls := fun b ps q => ⟨#[], by rw [upd_ne (ne_of_none q hn), q]; simp⟩
theorem Un.write (mu : Mut (H x)) (he : e = x ∨ H e = some (.own x)) (k : ∀ b u, b ≠ e → h.get? b = some u → h'.get? b = some u) (heo : ∃ u, h'.get? e = some u) : Un fs ex H (upd H x o) h h' := by
  have hx : ∀ b, H b = none → b ≠ x := fun b n z => by subst z; rw [n] at mu; exact mu
  have hb : ∀ b, H b = none → b ≠ e := fun b n z => by
    subst z
    rcases he with r | r
    · exact hx b n r
    · rw [n] at r; cases r
  have hm : ∀ b u, H b = some u → ¬ Mut (some u) → b ≠ x := fun b u q nm z => by subst z; rw [q] at mu; exact nm mu
  refine ⟨fun b u q n _ _ => k b u (hb b n) q, fun b u q n _ _ => ⟨u.slots, k b u (hb b n) q⟩, fun b u q n _ => by rw [upd_ne (hx b n)]; exact n, fun b u q _ => ?_,
    fun b xs q => by rw [upd_ne (hm b _ q fun z => z)]; exact q, fun b u xs q => by rw [upd_ne (hm b _ q fun z => z)]; exact q, fun b ps q => ⟨#[], by rw [upd_ne (hm b _ q fun z => z), q]; simp⟩⟩
  by_cases hbe : b = e
  · subst hbe; exact heo
  · exact ⟨u, k b u hbe q⟩
end

noncomputable def trk (h : Heap) (H : Hp) : List Addr := (List.range h.objs.size).filter fun a => (H a).isSome
noncomputable def hidT (h : Heap) (H : Hp) : Heap := PySem.W.hideAll h (trk h H)
theorem hidT_size (h : Heap) (H : Hp) : (hidT h H).objs.size = h.objs.size := PySem.W.hideAll_size _ _
theorem hidT_get {h : Heap} {H : Hp} {b : Addr} {o : Obj} (e : h.get? b = some o) (n : H b = none) : (hidT h H).get? b = some o :=
  PySem.W.hideAll_get _ e fun hm => by
    have q : (H b).isSome = true := (List.mem_filter.mp hm).2
    rw [n] at q; simp at q
theorem of_hidT {h : Heap} {H : Hp} {b : Addr} {o : Obj} (e : (hidT h H).get? b = some o) : h.get? b = some o ∧ H b = none := by
  have e' : h.get? b = some o := PySem.W.of_hideAll (trk h H) e
  refine ⟨e', ?_⟩
  cases q : H b with
  | none => rfl
  | some x =>
    have hm : b ∈ trk h H := List.mem_filter.mpr ⟨List.mem_range.mpr (Heap.lt_size e'), by simp [q]⟩
    have z : (hidT h H).get? b = none := PySem.W.hideAll_none (trk h H) hm
    rw [z] at e; cases e

noncomputable def allNews (g h : Heap) (L : Addr) : List (Addr × Obj) := (List.range h.objs.size).filterMap fun a => if a = L ∨ (g.get? a).isSome = true then none else (h.get? a).map fun o => (a, o)
noncomputable def rest (g h : Heap) (L d : Addr) : List (Addr × Obj) := (allNews g h L).filter fun p => decide (p.1 ≠ d)
end L2

namespace L2
open PySem PySem.Spec PyProof.Rows

structure Mod (K : PySem.W.Frag) (mg : Str → Option Value) (base : Heap) : Prop where
  kin : K.In base
  glob : base.Ns mainGlobals mg
  blt : ∃ mb, base.Ns builtinsNs mb ∧ ∀ x : Str, x ≠ "__name__" → mb x = bootBuiltins x
  nolimit : base.NoLimit

/-- the context: a def's body (or a comprehension's block) running. base: fixed through the whole law; s₀, H₀: the entry; outer: the frames whose slots others may change (a def's callers); stack: all frames that run;
   ex: iterators that were made ahead of the entry and are walked here (a comprehension's); fn: the names whose cells were made at the entry (a def: all; a comprehension's block: its own); calm: not within an except suite; pn: pins that every state bears; xe: what is wanted of an exception that leaves the code -/
structure Cx where
  prog : Program
  w : World
  K : PySem.W.Frag
  mg : Str → Option Value
  base : Heap
  A : Around
  N : List Str
  s₀ : Shared
  H₀ : Hp
  env : Env
  outer : List Env
  stack : List Env
  ex : List Addr
  fn : Str → Bool
  calm : Bool
  pn : List (Addr × Obj)
  xe : Value → Shared → Prop
  lo : Nat
noncomputable def frs (l : List Env) : List Addr := l.filterMap (·.frame)
noncomputable abbrev Cx.fs (X : Cx) : List Addr := frs X.outer

noncomputable def Vis (sc : Scope) (x : Str) : Prop := sc.names.lookup x = some .local ∨ sc.names.lookup x = some .cell ∨ sc.names.lookup x = some .free
noncomputable def Loc (sc : Scope) (x : Str) : Prop := sc.names.lookup x = some .local ∨ sc.names.lookup x = some .cell
noncomputable def Look (env : Env) (h : Heap) (m : Str → Option Value) (x : Str) (u : Value) : Prop :=
  (env.kindOf x = some .local ∧ m x = some u) ∨ ((env.kindOf x = some .cell ∨ env.kindOf x = some .free) ∧ ∃ c, env.cells.lookup x = some c ∧ h.IsCell c (some u))

structure Cx.Ok (X : Cx) : Prop where
  mod : Mod X.K X.mg X.base
  kind : X.env.scope.kind = .function
  glob : X.env.globals = mainGlobals
  blt : X.env.builtins = builtinsNs
  above : X.s₀.heap.objs.size ≤ X.env.locals
  inj : ∀ x y c, X.env.cells.lookup x = some c → X.env.cells.lookup y = some c → x = y
  has : ∀ x, (X.env.kindOf x = some .cell ∨ X.env.kindOf x = some .free) → ∃ c, X.env.cells.lookup x = some c
  cab : ∀ x c, X.fn x = true → X.env.cells.lookup x = some c → X.s₀.heap.objs.size ≤ c
  hd : X.calm = true → X.A.handled = none
  frames : X.A.frames = some X.stack
  stk : X.stack = X.outer ∨ (X.stack = X.env :: X.outer ∧ X.env.frame = some X.env.locals)
  exf : ∀ b ∈ X.ex, b ≠ X.env.locals ∧ ∀ x c, X.env.cells.lookup x = some c → c ≠ b
  bs : ∀ b o, X.base.get? b = some o → X.s₀.heap.get? b = some o ∧ X.H₀ b = none
  bsz : X.base.objs.size ≤ X.s₀.heap.objs.size
  noex : ∀ b o, X.base.get? b = some o → b ∉ X.ex
  exfs : ∀ b ∈ X.ex, b ∉ X.fs
  funs : X.s₀.heap.FunFrames X.base X.outer
  frf : ∀ b ∈ X.fs, X.H₀ b = none

structure InvW (X : Cx) (pins : List (Addr × Obj)) (σ : List (Option V)) (H : Hp) (s : Shared) : Prop where
  ok : X.Ok
  os : s.os = X.s₀.os
  bare : AllBare s.gens
  base : Un X.fs X.ex X.H₀ H X.s₀.heap s.heap
  loc : ∃ m, s.heap.Ns X.env.locals m ∧ ∀ (i : Nat) (x : Str) (v : V), X.N[i]? = some x → σ[i]? = some (some v) → Vis X.env.scope x → ∃ u, RelV v u ∧ Look X.env s.heap m x u
  cell : ∀ x c, X.env.cells.lookup x = some c → ∃ v, s.heap.IsCell c v
  free : H X.env.locals = none
  freeC : ∀ x c, X.env.cells.lookup x = some c → H c = none
  pin : ∀ p ∈ X.pn ++ pins, s.heap.get? p.1 = some p.2 ∧ H p.1 = none ∧ p.1 ≠ X.env.locals ∧ p.1 ∉ X.fs ∧ ∀ v, p.2.data ≠ .cell v
  hok : HOk X.prog X.w H s.heap
  len : σ.length = X.N.length

section
variable {X : Cx} {pins : List (Addr × Obj)} {σ : List (Option V)} {H H' : Hp} {s : Shared} {h' : Heap}

theorem Cx.Ok.nofr (ok : X.Ok) {b : Addr} {o : Obj} (e : X.base.get? b = some o) : b ∉ X.fs := fun hb => by
  have := (ok.funs.mem hb).1
  rw [e] at this; cases this
theorem InvW.bs (I : InvW X pins σ H s) : ∀ b o, X.base.get? b = some o → s.heap.get? b = some o ∧ H b = none := fun b o e =>
  ⟨I.base.keep b o (I.ok.bs b o e).1 (I.ok.bs b o e).2 (I.ok.nofr e) (I.ok.noex b o e), I.base.free b o (I.ok.bs b o e).1 (I.ok.bs b o e).2 (I.ok.noex b o e)⟩
theorem InvW.bk (I : InvW X pins σ H s) : ∀ b o, X.base.get? b = some o → s.heap.get? b = some o := fun b o e => (I.bs b o e).1
theorem InvW.mod (I : InvW X pins σ H s) : Mod X.K X.mg X.base := I.ok.mod
theorem InvW.kIn (I : InvW X pins σ H s) : X.K.In s.heap := I.ok.mod.kin.keeps I.bk
theorem InvW.fr (I : InvW X pins σ H s) : ∃ m, Fr X.base X.env.locals s.heap m :=
  let ⟨m, hn, _⟩ := I.loc
  ⟨m, hn, I.bk, Nat.le_trans I.ok.bsz I.ok.above⟩
theorem InvW.lt (I : InvW X pins σ H s) : X.env.locals < s.heap.objs.size := let ⟨_, hn, _⟩ := I.loc; hn.lt
theorem InvW.sz (I : InvW X pins σ H s) : X.s₀.heap.objs.size ≤ s.heap.objs.size := Nat.le_trans I.ok.above (Nat.le_of_lt I.lt)
theorem InvW.nofs (I : InvW X pins σ H s) {a : Addr} (h : s.heap.objs.size ≤ a) : a ∉ X.fs := fun hb => by
  obtain ⟨_, o, ho, _⟩ := I.ok.funs.mem hb
  exact absurd (Nat.lt_of_lt_of_le (Heap.lt_size ho) (Nat.le_trans I.sz h)) (Nat.lt_irrefl _)
theorem InvW.cne (I : InvW X pins σ H s) : ∀ x c, X.env.cells.lookup x = some c → c ≠ X.env.locals := fun x c e z => by
  obtain ⟨v, o, ho, hd⟩ := I.cell x c e
  obtain ⟨m, ⟨o', es, ep, ho', hd', _⟩, _⟩ := I.loc
  rw [z, ho'] at ho; cases ho; rw [hd'] at hd; cases hd
theorem InvW.funs (I : InvW X pins σ H s) : s.heap.FunFrames X.base X.outer := by
  have all : ∀ (l : List Env), (∀ b ∈ frs l, b ∈ X.fs) → X.s₀.heap.FunFrames X.base l → s.heap.FunFrames X.base l := by
    intro l
    induction l with
    | nil => intro _ _; trivial
    | cons env r ih =>
      intro hs hl
      obtain ⟨hk, ⟨L, o, hf, hn, ho, hd⟩, hr⟩ := hl
      have hL : L ∈ X.fs := hs L (by unfold frs; rw [List.filterMap_cons, hf]; exact List.mem_cons_self)
      obtain ⟨sl, e⟩ := I.base.slot L o ho (I.ok.frf L hL) hL fun z => I.ok.exfs L z hL
      exact ⟨hk, ⟨L, _, hf, hn, e, hd⟩, ih (fun b hb => hs b (by unfold frs; rw [List.filterMap_cons, hf]; exact List.mem_cons_of_mem _ hb)) hr⟩
  exact all X.outer (fun _ hb => hb) I.ok.funs

theorem InvW.stack (I : InvW X pins σ H s) : s.heap.FunFrames X.base X.stack := by
  rcases I.ok.stk with e | ⟨e, hf⟩
  · rw [e]; exact I.funs
  · rw [e]
    obtain ⟨m, hn, _⟩ := I.loc
    refine .cons (by rw [I.ok.kind]; decide) hf hn ?_ I.funs
    exact Heap.get?_none_of_le (Nat.le_trans I.ok.bsz I.ok.above)
theorem InvW.stkSub (I : InvW X pins σ H s) : ∀ b ∈ frs X.stack, b ∈ X.env.locals :: X.fs := fun b hb => by
  rcases I.ok.stk with e | ⟨e, hf⟩
  · rw [e] at hb; exact List.mem_cons_of_mem _ hb
  · rw [e] at hb
    unfold frs at hb
    rw [List.filterMap_cons, hf] at hb
    exact hb
theorem InvW.stkFree (I : InvW X pins σ H s) : ∀ b ∈ frs X.stack, H b = none := fun b hb => by
  rcases List.mem_cons.mp (I.stkSub b hb) with e | hb
  · rw [e]; exact I.free
  · obtain ⟨_, o, ho, _⟩ := I.ok.funs.mem hb
    exact I.base.free b o ho (I.ok.frf b hb) fun z => I.ok.exfs b z hb

theorem InvW.step {g' : Array GenState} {t' : Nat} {d' : Drawn} {ch : List Addr} (I : InvW X pins σ H s)
    (hch : ∀ b ∈ ch, (b ∈ X.ex ∨ X.s₀.heap.objs.size ≤ b) ∧ b ≠ X.env.locals ∧ (∀ x c, X.env.cells.lookup x = some c → c ≠ b) ∧ ∀ p ∈ X.pn ++ pins, p.1 ≠ b)
    (keep : ∀ b o, b ≠ X.env.locals → b ∉ X.fs → b ∉ ch → s.heap.get? b = some o → H b = none → h'.get? b = some o)
    (slot : ∀ b o, b ≠ X.env.locals → b ∈ X.fs → b ∉ ch → s.heap.get? b = some o → H b = none → ∃ sl, h'.get? b = some { o with slots := sl }) (free : ∀ b o, b ∉ ch → s.heap.get? b = some o → H b = none → H' b = none)
    (there : ∀ b o, b ∉ ch → s.heap.get? b = some o → ∃ o', h'.get? b = some o')
    (tups : ∀ b xs, H b = some (.tup xs) → H' b = some (.tup xs)) (frzs : ∀ b o u, H b = some (.frz o u) → H' b = some (.frz o u)) (tbls : ∀ b ps, H b = some (.tbl ps) → ∃ more, H' b = some (.tbl (ps ++ more)))
    (ns : ∀ m, s.heap.Ns X.env.locals m → h'.Ns X.env.locals m) (hok : HOk X.prog X.w H' h') (hg : AllBare g') :
    InvW X pins σ H' { s with heap := h', gens := g', drawn := d', toks := t' } := by
  have neL : ∀ b o, X.s₀.heap.get? b = some o → b ≠ X.env.locals := fun b o e => Nat.ne_of_lt (Nat.lt_of_lt_of_le (Heap.lt_size e) I.ok.above)
  have neC : ∀ b o, X.s₀.heap.get? b = some o → b ∉ X.ex → b ∉ ch := fun b o e hx hb => by
    rcases (hch b hb).1 with z | z
    · exact hx z
    · exact absurd (Nat.lt_of_lt_of_le (Heap.lt_size e) z) (Nat.lt_irrefl _)
  have cellK : ∀ x c, X.env.cells.lookup x = some c → ∀ v, s.heap.IsCell c v → h'.IsCell c v := fun x c e v ⟨o, ho, hd⟩ => by
    have nch : c ∉ ch := fun z => (hch c z).2.2.1 x c e rfl
    by_cases hc : c ∈ X.fs
    · obtain ⟨sl, q⟩ := slot c o (I.cne x c e) hc nch ho (I.freeC x c e)
      exact ⟨_, q, hd⟩
    · exact ⟨o, keep c o (I.cne x c e) hc nch ho (I.freeC x c e), hd⟩
  refine ⟨I.ok, I.os, hg, ⟨fun b o e n hb hx => ?_, fun b o e n hb hx => ?_, fun b o e n hx => ?_, fun b o e hx => ?_, fun b xs e => tups b xs (I.base.tups b xs e), fun b o xs e => frzs b o xs (I.base.frzs b o xs e), fun b ps e => ?_⟩, ?_, fun x c e => ?_, ?_, fun x c e => ?_, fun p hp => ?_, hok, I.len⟩
  · exact keep b o (neL b o e) hb (neC b o e hx) (I.base.keep b o e n hb hx) (I.base.free b o e n hx)
  · obtain ⟨sl, e1⟩ := I.base.slot b o e n hb hx
    obtain ⟨sl', e2⟩ := slot b _ (neL b o e) hb (neC b o e hx) e1 (I.base.free b o e n hx)
    exact ⟨sl', e2⟩
  · obtain ⟨o', e1⟩ := I.base.there b o e hx
    exact free b o' (neC b o e hx) e1 (I.base.free b o e n hx)
  · obtain ⟨o', e1⟩ := I.base.there b o e hx
    exact there b o' (neC b o e hx) e1
  · obtain ⟨m1, e1⟩ := I.base.tbls b ps e
    obtain ⟨m2, e2⟩ := tbls b _ e1
    exact ⟨m1 ++ m2, by rw [e2, Array.append_assoc]⟩
  · obtain ⟨m, hn, hl⟩ := I.loc
    refine ⟨m, ns m hn, fun i x v e1 e2 e3 => ?_⟩
    obtain ⟨u, r, l⟩ := hl i x v e1 e2 e3
    refine ⟨u, r, ?_⟩
    rcases l with l | ⟨k, c, e, z⟩
    · exact .inl l
    · exact .inr ⟨k, c, e, cellK x c e _ z⟩
  · obtain ⟨v, z⟩ := I.cell x c e
    exact ⟨v, cellK x c e v z⟩
  · obtain ⟨m, ⟨o, _, _, ho, _⟩, _⟩ := I.loc
    exact free _ o (fun z => (hch _ z).2.1 rfl) ho I.free
  · obtain ⟨v, o, ho, hd⟩ := I.cell x c e
    exact free c o (fun z => (hch c z).2.2.1 x c e rfl) ho (I.freeC x c e)
  · obtain ⟨e, n, ne, nf, d⟩ := I.pin p hp
    have nch : p.1 ∉ ch := fun z => (hch p.1 z).2.2.2 p hp rfl
    exact ⟨keep p.1 p.2 ne nf nch e n, free p.1 p.2 nch e n, ne, nf, d⟩
theorem InvW.un {t' : Nat} (I : InvW X pins σ H s) (u : Un X.fs [] H H' s.heap h') (hok : HOk X.prog X.w H' h') : InvW X pins σ H' { s with heap := h', toks := t' } := by
  obtain ⟨m, ⟨o, es, ep, ho, r⟩, _⟩ := id I.loc
  obtain ⟨sl, hL⟩ := u.any ho I.free (by simp)
  exact I.step (g' := s.gens) (d' := s.drawn) (ch := []) (fun _ z => nomatch z) (fun b o _ hb _ e n => u.keep b o e n hb (by simp)) (fun b o _ hb _ e n => u.slot b o e n hb (by simp)) (fun b o _ e n => u.free b o e n (by simp)) (fun b o _ e => u.there b o e (by simp)) u.tups u.frzs u.tbls (fun m' hm => by
    obtain ⟨o', es', ep', ho', r'⟩ := hm
    rw [ho] at ho'; cases ho'
    exact ⟨_, es', ep', hL, r'⟩) hok I.bare
theorem InvW.call {g' : Array GenState} {t' : Nat} {d' : Drawn} {ch : List Addr} (I : InvW X pins σ H s) (u : Un (frs X.stack) ch H H' s.heap h') (hok : HOk X.prog X.w H' h') (hg : AllBare g')
    (hch : ∀ b ∈ ch, (b ∈ X.ex ∨ X.s₀.heap.objs.size ≤ b) ∧ b ≠ X.env.locals ∧ (∀ x c, X.env.cells.lookup x = some c → c ≠ b) ∧ ∀ p ∈ X.pn ++ pins, p.1 ≠ b) :
    InvW X pins σ H' { s with heap := h', gens := g', drawn := d', toks := t' } := by
  obtain ⟨m, ⟨o, es, ep, ho, r⟩, _⟩ := id I.loc
  obtain ⟨sl, hL⟩ := u.any ho I.free fun z => (hch _ z).2.1 rfl
  exact I.step (ch := ch) hch (fun b o hL hb hc e n => u.keep b o e n (fun z => (List.mem_cons.mp (I.stkSub b z)).elim hL hb) hc) (fun b o _ _ hc e n => u.any e n hc) (fun b o hc e n => u.free b o e n hc) (fun b o hc e => u.there b o e hc) u.tups u.frzs u.tbls (fun m' hm => by
    obtain ⟨o', es', ep', ho', r'⟩ := hm
    rw [ho] at ho'; cases ho'
    exact ⟨_, es', ep', hL, r'⟩) hok hg
theorem InvW.turned {t' : Nat} {it : Addr} (I : InvW X pins σ H s) (k : ∀ b o, b ≠ it → s.heap.get? b = some o → h'.get? b = some o) (hn : H it = none) (hL : it ≠ X.env.locals)
    (h1 : it ∈ X.ex ∨ X.s₀.heap.objs.size ≤ it) (h2 : ∀ x c, X.env.cells.lookup x = some c → c ≠ it) (h3 : ∀ p ∈ X.pn ++ pins, p.1 ≠ it) : InvW X pins σ H { s with heap := h', toks := t' } := by
  have nit : ∀ b u, H b = some u → b ≠ it := fun b u e z => by rw [z, hn] at e; cases e
  refine I.step (g' := s.gens) (d' := s.drawn) (ch := [it]) (fun b hb => ?_) (fun b o _ _ hc e _ => k b o (fun z => hc (by simp [z])) e) (fun b o _ _ hc e _ => ⟨o.slots, k b o (fun z => hc (by simp [z])) e⟩) (fun _ _ _ _ n => n)
    (fun b o hc e => ⟨o, k b o (fun z => hc (by simp [z])) e⟩) (fun _ _ e => e) (fun _ _ _ e => e) (fun b ps e => ⟨#[], by rw [e]; simp⟩) (fun m hm => ?_) (fun b u e => ?_) I.bare
  · have e : b = it := by simpa using hb
    subst e
    exact ⟨h1, hL, h2, h3⟩
  · obtain ⟨o, es, ep, ho, r⟩ := hm
    exact ⟨o, es, ep, k _ o (Ne.symm hL) ho, r⟩
  · refine (I.hok b u e).stay (fun c v hc q => k c v ?_ q) (fun _ q => q) fun _ _ q => q
    rcases hc with z | z
    · rw [z]; exact nit b u e
    · exact nit c _ z
theorem InvW.tok (I : InvW X pins σ H s) (t : Nat) : InvW X pins σ H { s with toks := t } := I.un (h' := s.heap) (t' := t) Un.refl I.hok
theorem InvW.kept {t' : Nat} (I : InvW X pins σ H s) (k : ∀ b u, s.heap.get? b = some u → h'.get? b = some u) : InvW X pins σ H { s with heap := h', toks := t' } := I.un (Un.kept k) (I.hok.kept k)
theorem InvW.laid {a : Addr} {o : HO} {t' : Nat} (I : InvW X pins σ H s) (k : ∀ b u, s.heap.get? b = some u → h'.get? b = some u) (hp : s.heap.objs.size ≤ a) (new : ObjOk X.prog X.w (upd H a o) h' a o) :
    InvW X pins σ (upd H a o) { s with heap := h', toks := t' } := I.un (Un.laid k hp (I.hok.fresh hp)) (I.hok.laid k hp new)
theorem InvW.write {x e : Addr} {o : HO} {t' : Nat} (I : InvW X pins σ H s) (mu : Mut (H x)) (he : e = x ∨ H e = some (.own x)) (k : ∀ b u, b ≠ e → s.heap.get? b = some u → h'.get? b = some u) (heo : ∃ u, h'.get? e = some u)
    (new : ObjOk X.prog X.w (upd H x o) h' x o) : InvW X pins σ (upd H x o) { s with heap := h', toks := t' } := I.un (Un.write mu he k heo) (I.hok.write mu he k heo new)
theorem InvW.pins_of {pins' : List (Addr × Obj)} (I : InvW X pins σ H s) (h : ∀ p ∈ pins', s.heap.get? p.1 = some p.2 ∧ H p.1 = none ∧ p.1 ≠ X.env.locals ∧ p.1 ∉ X.fs ∧ ∀ v, p.2.data ≠ .cell v) : InvW X pins' σ H s :=
  ⟨I.ok, I.os, I.bare, I.base, I.loc, I.cell, I.free, I.freeC, fun p hp => (List.mem_append.mp hp).elim (fun z => I.pin p (List.mem_append_left _ z)) (h p), I.hok, I.len⟩

theorem nodup_ix {N : List Str} (hN : N.Nodup) {i j : Nat} {x : Str} (a : N[i]? = some x) (b : N[j]? = some x) : i = j := by
  obtain ⟨h1, e1⟩ := List.getElem?_eq_some_iff.mp a
  obtain ⟨h2, e2⟩ := List.getElem?_eq_some_iff.mp b
  exact (List.getElem_inj hN).mp (e1.trans e2.symm)

theorem store_okW2 {M : Model} {A : Around} {E : Value → Shared → Prop} {i : Nat} {x : Str} {v : V} {u : Value} {Q : Unit → Shared → Prop} (I : InvW X pins σ H s) (hN : X.N.Nodup) (hi : X.N[i]? = some x) (hx : Loc X.env.scope x) (r : RelV v u)
    (h : ∀ s', InvW X pins (σ.set i (some v)) H s' → (∃ a, Heap.SameBut a s.heap s'.heap ∧ (a = X.env.locals ∨ X.env.cells.lookup x = some a)) → Q () s') (hf : X.fn x = true ∨ X.env.scope.names.lookup x = some .local := by first | exact .inl rfl | exact .inr rfl | assumption) : wpAny M A (storeName X.env x u) Q E s := by
  obtain ⟨m, hn, hl⟩ := id I.loc
  have hcls : (X.env.scope.kind == .class || (X.env.scope.kind == .module && X.env.locals != X.env.globals)) = false := by rw [I.ok.kind]; rfl
  have hiσ : i < σ.length := by rw [I.len]; exact (List.getElem?_eq_some_iff.mp hi).1
  have cne := I.cne
  have tracked : ∀ {a : Addr} {h' : Heap}, (∃ o, s.heap.get? a = some o ∧ H a = none) → Heap.SameBut a s.heap h' → HOk X.prog X.w H h' := fun {a h'} ha hs b ob e => by
    obtain ⟨_, _, hfree⟩ := ha
    refine (I.hok b ob e).stay (fun c w' hc q => (hs.2 c ?_).trans q) (fun _ q => q) fun _ _ q => q
    rintro rfl
    rcases hc with rfl | hc
    · rw [hfree] at e; cases e
    · rw [hfree] at hc; cases hc
  rcases hx with hk | hk
  · refine wpAny_storeName_local hk hn (fun h' hn' hs => ?_) hcls
    obtain ⟨oL, _, _, hoL, _⟩ := id hn
    refine h _ ⟨I.ok, I.os, I.bare, ⟨fun b o e n hb hx => ?_, fun b o e n hb hx => ?_, I.base.free, fun b o e hx => ?_, I.base.tups, I.base.frzs, I.base.tbls⟩, ⟨_, hn', fun j y v' e1 e2 e3 => ?_⟩, fun y c e => ?_, I.free, I.freeC, fun p hp => ?_, tracked ⟨oL, hoL, I.free⟩ hs, by simpa using I.len⟩ ⟨_, hs, .inl rfl⟩
    · exact (hs.2 b (Nat.ne_of_lt (Nat.lt_of_lt_of_le (Heap.lt_size e) I.ok.above))).trans (I.base.keep b o e n hb hx)
    · obtain ⟨sl, e1⟩ := I.base.slot b o e n hb hx
      exact ⟨sl, (hs.2 b (Nat.ne_of_lt (Nat.lt_of_lt_of_le (Heap.lt_size e) I.ok.above))).trans e1⟩
    · obtain ⟨o', e1⟩ := I.base.there b o e hx
      exact ⟨o', (hs.2 b (Nat.ne_of_lt (Nat.lt_of_lt_of_le (Heap.lt_size e) I.ok.above))).trans e1⟩
    · by_cases hj : j = i
      · subst hj
        rw [hi] at e1; cases e1
        rw [List.getElem?_set_self hiσ] at e2
        cases e2
        exact ⟨u, r, .inl ⟨hk, by simp⟩⟩
      · rw [List.getElem?_set_ne (Ne.symm hj)] at e2
        obtain ⟨u', r', q⟩ := hl j y v' e1 e2 e3
        refine ⟨u', r', ?_⟩
        rcases q with ⟨k, e⟩ | ⟨k, c, e, z⟩
        · refine .inl ⟨k, ?_⟩
          have : y ≠ x := fun e => hj (nodup_ix hN e1 (e ▸ hi))
          simp [this, e]
        · exact .inr ⟨k, c, e, z.sameBut hs (cne y c e)⟩
    · obtain ⟨w', z⟩ := I.cell y c e
      exact ⟨w', z.sameBut hs (cne y c e)⟩
    · obtain ⟨e, n, ne, nf, d⟩ := I.pin p hp
      exact ⟨(hs.2 p.1 ne).trans e, n, ne, nf, d⟩
  · have hfn : X.fn x = true := by
      rcases hf with z | z
      · exact z
      · rw [z] at hk; cases hk
    obtain ⟨c, hc⟩ := I.ok.has x (.inl hk)
    obtain ⟨w', z⟩ := I.cell x c hc
    refine wpAny_storeName_cell I.ok.kind hk hc z (fun h' hc' hs => ?_)
    obtain ⟨oc, hoc, hocd⟩ := id z
    refine h { s with heap := h' } ⟨I.ok, I.os, I.bare, ⟨fun b o e n hb hx => ?_, fun b o e n hb hx => ?_, I.base.free, fun b o e hx => ?_, I.base.tups, I.base.frzs, I.base.tbls⟩, ⟨m, hn.sameBut hs (Ne.symm (cne x c hc)), fun j y v' e1 e2 e3 => ?_⟩, fun y c' e => ?_, I.free, I.freeC, fun p hp => ?_, tracked ⟨oc, hoc, I.freeC x c hc⟩ hs, by simpa using I.len⟩ ⟨c, hs, .inr hc⟩
    · exact (hs.2 b (Nat.ne_of_lt (Nat.lt_of_lt_of_le (Heap.lt_size e) (I.ok.cab x c hfn hc)))).trans (I.base.keep b o e n hb hx)
    · obtain ⟨sl, e1⟩ := I.base.slot b o e n hb hx
      exact ⟨sl, (hs.2 b (Nat.ne_of_lt (Nat.lt_of_lt_of_le (Heap.lt_size e) (I.ok.cab x c hfn hc)))).trans e1⟩
    · obtain ⟨o', e1⟩ := I.base.there b o e hx
      exact ⟨o', (hs.2 b (Nat.ne_of_lt (Nat.lt_of_lt_of_le (Heap.lt_size e) (I.ok.cab x c hfn hc)))).trans e1⟩
    · by_cases hj : j = i
      · subst hj
        rw [hi] at e1; cases e1
        rw [List.getElem?_set_self hiσ] at e2
        cases e2
        exact ⟨u, r, .inr ⟨.inl hk, c, hc, hc'⟩⟩
      · rw [List.getElem?_set_ne (Ne.symm hj)] at e2
        obtain ⟨u', r', q⟩ := hl j y v' e1 e2 e3
        refine ⟨u', r', ?_⟩
        rcases q with q | ⟨k, c', e, z'⟩
        · exact .inl q
        · refine .inr ⟨k, c', e, z'.sameBut hs ?_⟩
          rintro rfl
          exact hj (nodup_ix hN e1 (I.ok.inj _ _ _ e hc ▸ hi))
    · by_cases hcc : c' = c
      · subst hcc; exact ⟨_, hc'⟩
      · obtain ⟨w2, z2⟩ := I.cell y c' e
        exact ⟨w2, z2.sameBut hs hcc⟩
    · obtain ⟨e, n, ne, nf, d⟩ := I.pin p hp
      refine ⟨(hs.2 p.1 ?_).trans e, n, ne, nf, d⟩
      intro q
      rw [q, hoc] at e
      have q' : oc = p.2 := Option.some.inj e
      exact d w' (by rw [← q']; exact hocd)
theorem store_okW {M : Model} {A : Around} {E : Value → Shared → Prop} {i : Nat} {x : Str} {v : V} {u : Value} {Q : Unit → Shared → Prop} (I : InvW X pins σ H s) (hN : X.N.Nodup) (hi : X.N[i]? = some x) (hx : Loc X.env.scope x) (r : RelV v u)
    (h : ∀ s', InvW X pins (σ.set i (some v)) H s' → Q () s') (hf : X.fn x = true ∨ X.env.scope.names.lookup x = some .local := by first | exact .inl rfl | exact .inr rfl | assumption) : wpAny M A (storeName X.env x u) Q E s :=
  store_okW2 I hN hi hx r (fun s' I' _ => h s' I') hf
theorem InvW.call' {s' : Shared} {ch : List Addr} (I : InvW X pins σ H s) (ho : s'.os = s.os) (u : Un (frs X.stack) ch H H' s.heap s'.heap) (hok : HOk X.prog X.w H' s'.heap) (hg : AllBare s'.gens)
    (hch : ∀ b ∈ ch, (b ∈ X.ex ∨ X.s₀.heap.objs.size ≤ b) ∧ b ≠ X.env.locals ∧ (∀ x c, X.env.cells.lookup x = some c → c ≠ b) ∧ ∀ p ∈ X.pn ++ pins, p.1 ≠ b) : InvW X pins σ H' s' := by
  obtain ⟨h', g', d', t', o'⟩ := s'
  have e : o' = s.os := ho
  subst e
  exact I.call (g' := g') (t' := t') (d' := d') u hok hg hch
structure Inv (X : Cx) (pins : List (Addr × Obj)) (σ : List (Option V)) (H : Hp) (s : Shared) : Prop extends InvW X pins σ H s where
  low : X.lo ≤ s.toks
instance : Coe (Inv X pins σ H s) (InvW X pins σ H s) := ⟨Inv.toInvW⟩
theorem InvW.up {s : Shared} (I : InvW X pins σ H s) (l : X.lo ≤ s.toks) : Inv X pins σ H s := ⟨I, l⟩
theorem wt {α : Type} {M : Model} {A : Around} {t : Sem α} {Q : α → Shared → Prop} {E : Value → Shared → Prop} {n : Nat} {s : Shared} (hn : n ≤ s.toks) (h : wpAny M A t (fun a s' => n ≤ s'.toks → Q a s') E s) : wpAny M A t Q E s :=
  wpAny_with_toks hn (wpAny_mono h (fun _ _ x => x) fun _ _ x _ => x)
theorem store_ok2 {M : Model} {A : Around} {E : Value → Shared → Prop} {i : Nat} {x : Str} {v : V} {u : Value} {Q : Unit → Shared → Prop} (I : Inv X pins σ H s) (hN : X.N.Nodup) (hi : X.N[i]? = some x) (hx : Loc X.env.scope x) (r : RelV v u)
    (h : ∀ s', Inv X pins (σ.set i (some v)) H s' → (∃ a, Heap.SameBut a s.heap s'.heap ∧ (a = X.env.locals ∨ X.env.cells.lookup x = some a)) → Q () s') (hf : X.fn x = true ∨ X.env.scope.names.lookup x = some .local := by first | exact .inl rfl | exact .inr rfl | assumption) : wpAny M A (storeName X.env x u) Q E s :=
  wt I.low (store_okW2 I.toInvW hN hi hx r (fun s' I' z l => h s' ⟨I', l⟩ z) hf)
theorem store_ok {M : Model} {A : Around} {E : Value → Shared → Prop} {i : Nat} {x : Str} {v : V} {u : Value} {Q : Unit → Shared → Prop} (I : Inv X pins σ H s) (hN : X.N.Nodup) (hi : X.N[i]? = some x) (hx : Loc X.env.scope x) (r : RelV v u)
    (h : ∀ s', Inv X pins (σ.set i (some v)) H s' → Q () s') (hf : X.fn x = true ∨ X.env.scope.names.lookup x = some .local := by first | exact .inl rfl | exact .inr rfl | assumption) : wpAny M A (storeName X.env x u) Q E s :=
  store_ok2 I hN hi hx r (fun s' I' _ => h s' I') hf
theorem Inv.pins_of {pins' : List (Addr × Obj)} (I : Inv X pins σ H s) (h : ∀ p ∈ pins', s.heap.get? p.1 = some p.2 ∧ H p.1 = none ∧ p.1 ≠ X.env.locals ∧ p.1 ∉ X.fs ∧ ∀ v, p.2.data ≠ .cell v) : Inv X pins' σ H s := ⟨I.toInvW.pins_of h, I.low⟩
end

noncomputable abbrev XK := Value → Option Addr → Hp → Prop
noncomputable abbrev St := List (Option V)
noncomputable abbrev VK := V → Hp → Prop
noncomputable abbrev TE := St → Hp → VK → Prop
noncomputable abbrev TT := St → Hp → (Bool → Hp → Prop) → Prop
noncomputable abbrev TA := St → Hp → (List V → Hp → Prop) → Prop
structure Ends where
  nx : St → Hp → Prop
  rt : VK
  bk : St → Hp → Prop := fun _ _ => False
  ct : St → Hp → Prop := fun _ _ => False
noncomputable abbrev TS := Ends → St → Hp → Prop

noncomputable def EP (X : Cx) (pins : List (Addr × Obj)) (σ : St) (Q : VK) (u : Value) (s' : Shared) : Prop := ∃ v H', InvW X pins σ H' s' ∧ RelV v u ∧ Q v H'
noncomputable def EPs (X : Cx) (pins : List (Addr × Obj)) (σ : St) (Q : VK) (u : Value) (s' : Shared) : Prop := ∃ v H', Inv X pins σ H' s' ∧ RelV v u ∧ Q v H'
noncomputable def TP (X : Cx) (pins : List (Addr × Obj)) (σ : St) (Q : Bool → Hp → Prop) (b : Bool) (s' : Shared) : Prop := ∃ H', InvW X pins σ H' s' ∧ Q b H'
noncomputable def TPs (X : Cx) (pins : List (Addr × Obj)) (σ : St) (Q : Bool → Hp → Prop) (b : Bool) (s' : Shared) : Prop := ∃ H', Inv X pins σ H' s' ∧ Q b H'
noncomputable def AP (X : Cx) (pins : List (Addr × Obj)) (σ : St) (Q : List V → Hp → Prop) (us : List Value) (s' : Shared) : Prop := ∃ vs H', InvW X pins σ H' s' ∧ Vals vs us ∧ Q vs H'
noncomputable def APs (X : Cx) (pins : List (Addr × Obj)) (σ : St) (Q : List V → Hp → Prop) (us : List Value) (s' : Shared) : Prop := ∃ vs H', Inv X pins σ H' s' ∧ Vals vs us ∧ Q vs H'
noncomputable def SP (X : Cx) (pins : List (Addr × Obj)) (D : Ends) (f : Flow) (s' : Shared) : Prop :=
  match f with
  | .next => ∃ σ' H', InvW X pins σ' H' s' ∧ D.nx σ' H'
  | .brk => ∃ σ' H', InvW X pins σ' H' s' ∧ D.bk σ' H'
  | .cont => ∃ σ' H', InvW X pins σ' H' s' ∧ D.ct σ' H'
  | .ret u => ∃ v σ' H', InvW X pins σ' H' s' ∧ RelV v u ∧ D.rt v H'
noncomputable def SPs (X : Cx) (pins : List (Addr × Obj)) (D : Ends) (f : Flow) (s' : Shared) : Prop :=
  match f with
  | .next => ∃ σ' H', Inv X pins σ' H' s' ∧ D.nx σ' H'
  | .brk => ∃ σ' H', Inv X pins σ' H' s' ∧ D.bk σ' H'
  | .cont => ∃ σ' H', Inv X pins σ' H' s' ∧ D.ct σ' H'
  | .ret u => ∃ v σ' H', Inv X pins σ' H' s' ∧ RelV v u ∧ D.rt v H'

noncomputable def PE (X : Cx) (e : Expr) (t : TE) : Prop :=
  ∀ (pins : List (Addr × Obj)) (s : Shared) (σ : St) (H : Hp) (Q : VK), Inv X pins σ H s → t σ H Q → wpAny (model X.prog X.w) X.A (eval e X.env) (EP X pins σ Q) X.xe s
noncomputable def PT (X : Cx) (e : Expr) (t : TT) : Prop :=
  ∀ (pins : List (Addr × Obj)) (s : Shared) (σ : St) (H : Hp) (Q : Bool → Hp → Prop), Inv X pins σ H s → t σ H Q → wpAny (model X.prog X.w) X.A (isTrue e X.env (eval e X.env)) (TP X pins σ Q) X.xe s
noncomputable def PW (X : Cx) (e : Expr) (t : TT) : Prop :=
  ∀ (whole : Sem Value) (pins : List (Addr × Obj)) (s : Shared) (σ : St) (H : Hp) (Q : Bool → Hp → Prop), Inv X pins σ H s → t σ H Q → wpAny (model X.prog X.w) X.A (isTrue e X.env whole) (TP X pins σ Q) X.xe s
theorem PW.pt {X : Cx} {e : Expr} {t : TT} (h : PW X e t) : PT X e t := h _
noncomputable def PA (X : Cx) (es : List Expr) (t : TA) : Prop :=
  ∀ (pos : Pos) (pins : List (Addr × Obj)) (s : Shared) (σ : St) (H : Hp) (Q : List V → Hp → Prop), Inv X pins σ H s → t σ H Q → wpAny (model X.prog X.w) X.A (spliced (backTo pos (starEach es X.env))) (AP X pins σ Q) X.xe s
noncomputable def PS (X : Cx) (st : Stmt) (t : TS) : Prop :=
  ∀ (pins : List (Addr × Obj)) (s : Shared) (σ : St) (H : Hp) (D : Ends), Inv X pins σ H s → t D σ H → wpAny (model X.prog X.w) X.A (exec st X.env) (SP X pins D) X.xe s
noncomputable def PSs (X : Cx) (st : List Stmt) (t : TS) : Prop :=
  ∀ (pins : List (Addr × Obj)) (s : Shared) (σ : St) (H : Hp) (D : Ends), Inv X pins σ H s → t D σ H → wpAny (model X.prog X.w) X.A (execs st X.env) (SP X pins D) X.xe s
class Upg {α : Type} (Q : α → Shared → Prop) (n : outParam Nat) (Q' : outParam (α → Shared → Prop)) : Prop where
  up : ∀ a s, n ≤ s.toks → Q a s → Q' a s
instance (priority := low) {α : Type} (Q : α → Shared → Prop) : Upg Q 0 Q := ⟨fun _ _ _ h => h⟩
section
variable {X : Cx} {pins : List (Addr × Obj)} {σ : St}
instance {Q : VK} : Upg (EP X pins σ Q) X.lo (EPs X pins σ Q) := ⟨fun _ _ l ⟨v, H, I, r⟩ => ⟨v, H, I.up l, r⟩⟩
instance {Q : Bool → Hp → Prop} : Upg (TP X pins σ Q) X.lo (TPs X pins σ Q) := ⟨fun _ _ l ⟨H, I, r⟩ => ⟨H, I.up l, r⟩⟩
instance {Q : List V → Hp → Prop} : Upg (AP X pins σ Q) X.lo (APs X pins σ Q) := ⟨fun _ _ l ⟨v, H, I, r⟩ => ⟨v, H, I.up l, r⟩⟩
instance {D : Ends} : Upg (SP X pins D) X.lo (SPs X pins D) := ⟨fun f _ l h => match f, h with
  | .next, ⟨σ, H, I, r⟩ => ⟨σ, H, I.up l, r⟩
  | .brk, ⟨σ, H, I, r⟩ => ⟨σ, H, I.up l, r⟩
  | .cont, ⟨σ, H, I, r⟩ => ⟨σ, H, I.up l, r⟩
  | .ret _, ⟨v, σ, H, I, r⟩ => ⟨v, σ, H, I.up l, r⟩⟩
end
theorem TPs.w {X : Cx} {pins : List (Addr × Obj)} {σ : St} {Q : Bool → Hp → Prop} {b : Bool} {s : Shared} (h : TPs X pins σ Q b s) : TP X pins σ Q b s := let ⟨H, I, r⟩ := h; ⟨H, I.toInvW, r⟩
theorem SPs.w {X : Cx} {pins : List (Addr × Obj)} {D : Ends} {f : Flow} {s : Shared} (h : SPs X pins D f s) : SP X pins D f s := match f, h with
  | .next, ⟨σ, H, I, r⟩ => ⟨σ, H, I.toInvW, r⟩
  | .brk, ⟨σ, H, I, r⟩ => ⟨σ, H, I.toInvW, r⟩
  | .cont, ⟨σ, H, I, r⟩ => ⟨σ, H, I.toInvW, r⟩
  | .ret _, ⟨v, σ, H, I, r⟩ => ⟨v, σ, H, I.toInvW, r⟩
theorem thw {α : Type} {t : Sem α} {Q Q' : α → Shared → Prop} {M : Model} {A : Around} {E : Value → Shared → Prop} {s : Shared} (h : wpAny M A t Q E s) (hQ : ∀ a s, Q a s → Q' a s) : wpAny M A t Q' E s := wpAny_mono h hQ fun _ _ x => x
theorem thn {α : Type} {t : Sem α} {Q Qs Q' : α → Shared → Prop} {n : Nat} {M : Model} {A : Around} {E : Value → Shared → Prop} {s : Shared} (h : wpAny M A t Q E s) [u : Upg Q n Qs] (hQ : ∀ a s, Qs a s → Q' a s) (hn : n ≤ s.toks := by first | exact Nat.zero_le _ | assumption | (apply Inv.low; assumption)) : wpAny M A t Q' E s :=
  wt hn (wpAny_mono h (fun a s' x l => hQ a s' (u.up a s' l x)) fun _ _ x => x)
end L2

namespace L2
open PySem PySem.Spec PyProof.Rows
section
variable {X : Cx}


inductive tVar (i : Nat) (σ : St) (H : Hp) (Q : VK) : Prop
  | mk : ∀ v, (σ[i]? = some (some v)) → (Q v H) → tVar i σ H Q
noncomputable def tC (v : V) : TE := fun _ H Q => Q v H
theorem pe_var {i : Nat} {x : Str} {pos : Pos} (hN : X.N[i]? = some x) (hv : Vis X.env.scope x) (hd : (x == ("__debug__" : Str)) = false := by decide) (hcd : (x == ("__classdict__" : Str)) = false := by decide) : PE X (.Name x pos) (tVar i) := by
  intro pins s σ H Q I h
  obtain ⟨v, e, h⟩ := h
  obtain ⟨m, hn, hl⟩ := I.loc
  obtain ⟨u, r, l⟩ := hl i x v hN e hv
  have fin : EP X pins σ Q u s := ⟨v, H, I, r, h⟩
  rcases l with ⟨hk, hm⟩ | ⟨hk, c, hc, hcell⟩
  · exact wpAny_Name (wpAny_loadName_local I.ok.kind hk hn hm fin) hd
  · rcases hk with hk | hk
    · exact wpAny_Name (wpAny_loadName_cell I.ok.kind hk hc hcell fin) hd
    · exact wpAny_Name (wpAny_loadName_free I.ok.kind hk hc hcell fin hcd) hd
theorem pe_int {i j pos} : PE X (.Constant (.int i) j pos) (tC (.int i)) := fun _ _ _ H _ I h => wpAny_Constant_int ⟨.int i, H, I.tok _, ⟨_, rfl⟩, h⟩
theorem pe_bl {b j pos} : PE X (.Constant (.bool b) j pos) (tC (.bl b)) := fun _ _ _ H _ I h => Constant_bool ⟨.bl b, H, I, rfl, h⟩
theorem pe_non {j pos} : PE X (.Constant .none j pos) (tC .non) := fun _ _ _ H _ I h => Constant_none ⟨.non, H, I, rfl, h⟩
theorem pe_str {x j pos} : PE X (.Constant (.str x) j pos) (tC (.str x)) := fun _ _ _ H _ I h => Calls.Constant_str ⟨.str x, H, I.tok _, ⟨_, rfl⟩, h⟩

noncomputable def Gl (X : Cx) (x : Str) : Prop := X.env.kindOf x = some .globalImplicit
theorem ld_glob {E : Value → Shared → Prop} {pins : List (Addr × Obj)} {s : Shared} {σ : St} {H : Hp} {x : Str} {u : Value} {pos : Pos} {Q : Value → Shared → Prop} (I : Inv X pins σ H s) (hg : Gl X x) (hm : X.mg x = some u) (h : Q u s)
    (hd : (x == ("__debug__" : Str)) = false := by decide) : wpAny (model X.prog X.w) X.A (eval (.Name x pos) X.env) Q E s :=
  Calls.Name_function_global I.ok.kind hg (Calls.loadGlobal_global (by rw [I.ok.glob]; exact I.mod.glob.keeps I.bk) hm h) hd
theorem ld_blt {E : Value → Shared → Prop} {pins : List (Addr × Obj)} {s : Shared} {σ : St} {H : Hp} {x : Str} {u : Value} {pos : Pos} {Q : Value → Shared → Prop} (I : Inv X pins σ H s) (hg : Gl X x) (hm : X.mg x = none) (hv : bootBuiltins x = some u) (h : Q u s)
    (hn : x ≠ "__name__" := by decide) (hd : (x == ("__debug__" : Str)) = false := by decide) : wpAny (model X.prog X.w) X.A (eval (.Name x pos) X.env) Q E s := by
  obtain ⟨mb, h1, h2⟩ := I.mod.blt
  exact Calls.Name_function_global I.ok.kind hg (Calls.loadGlobal_builtin (by rw [I.ok.glob]; exact I.mod.glob.keeps I.bk) hm (by rw [I.ok.blt]; exact h1.keeps I.bk) ((h2 x hn).trans hv) h) hd
theorem pe_glob {x : Str} {v : V} {u : Value} {pos : Pos} (hg : Gl X x) (hm : X.mg x = some u) (r : RelV v u) (hd : (x == ("__debug__" : Str)) = false := by decide) : PE X (.Name x pos) (tC v) :=
  fun _ _ _ H _ I h => ld_glob I hg hm ⟨v, H, I, r, h⟩ hd
theorem pe_bltn {x : Str} {v : V} {u : Value} {pos : Pos} (hg : Gl X x) (hm : X.mg x = none) (hv : bootBuiltins x = some u) (r : RelV v u) (hn : x ≠ "__name__" := by decide) (hd : (x == ("__debug__" : Str)) = false := by decide) : PE X (.Name x pos) (tC v) :=
  fun _ _ _ H _ I h => ld_blt I hg hm hv ⟨v, H, I, r, h⟩ hn hd

variable {a b : Expr} {ta tb : TE} {pos : Pos}

inductive IsB (x : V) (H : Hp) (Q : Bool → Hp → Prop) : Prop
  | mk : ∀ c, (x = .bl c) → (Q c H) → IsB x H Q

variable {tA tB' : TT} {rest : List Expr}
noncomputable def tAnd_k1 (u : TT) (σ : St) (Q : (Bool → Hp → Prop)) : Bool → Hp → Prop := fun c H1 => if c = true then u σ H1 Q else Q false H1
noncomputable def tAnd (t u : TT) : TT := fun σ H Q => t σ H (tAnd_k1 u σ Q)
noncomputable def tOr_k1 (u : TT) (σ : St) (Q : (Bool → Hp → Prop)) : Bool → Hp → Prop := fun c H1 => if c = true then Q true H1 else u σ H1 Q
noncomputable def tOr (t u : TT) : TT := fun σ H Q => t σ H (tOr_k1 u σ Q)
noncomputable def tNot_k1 (Q : (Bool → Hp → Prop)) : Bool → Hp → Prop := fun c H1 => Q (!c) H1
noncomputable def tNot (t : TT) : TT := fun σ H Q => t σ H (tNot_k1 Q)
theorem pw_and1 (ha : PT X a tA) : PW X (.BoolOp .And [a] pos) tA := by
  intro wh pins s σ H Q I h
  refine isTrue_and (thn (ha pins s σ H Q I h) fun c s1 e => ?_)
  cases c with
  | true => exact isTrue_and_nil e.w
  | false => exact e.w
theorem pw_or1 (ha : PT X a tA) : PW X (.BoolOp .Or [a] pos) tA := by
  intro wh pins s σ H Q I h
  refine isTrue_or (thn (ha pins s σ H Q I h) fun c s1 e => ?_)
  cases c with
  | false => exact isTrue_or_nil e.w
  | true => exact e.w
theorem pw_and (ha : PT X a tA) (hb : PW X (.BoolOp .And (b :: rest) pos) tB') : PW X (.BoolOp .And (a :: b :: rest) pos) (tAnd tA tB') := by
  intro wh pins s σ H Q I h
  refine isTrue_and (thn (ha pins s σ H _ I h) fun c s1 zq7 => ?_)
  obtain ⟨H1, I1, q1⟩ := zq7
  cases c with
  | true => exact hb wh pins s1 σ H1 Q I1 q1
  | false => exact ⟨H1, I1, q1⟩
theorem pw_or (ha : PT X a tA) (hb : PW X (.BoolOp .Or (b :: rest) pos) tB') : PW X (.BoolOp .Or (a :: b :: rest) pos) (tOr tA tB') := by
  intro wh pins s σ H Q I h
  refine isTrue_or (thn (ha pins s σ H _ I h) fun c s1 zq8 => ?_)
  obtain ⟨H1, I1, q1⟩ := zq8
  cases c with
  | true => exact ⟨H1, I1, q1⟩
  | false => exact hb wh pins s1 σ H1 Q I1 q1
theorem pt_not (ha : PT X a tA) : PT X (.UnaryOp .Not a pos) (tNot tA) := by
  intro pins s σ H Q I h
  exact isTrue_not (ha pins s σ H (fun c H1 => Q (!c) H1) I h)
noncomputable def tAndV_k1 (tb : TE) (σ : St) (Q : VK) : Bool → Hp → Prop := fun c H1 => if c = true then tb σ H1 Q else Q (.bl false) H1
noncomputable def tAndV_k2 (tb : TE) (σ : St) (Q : VK) : V → Hp → Prop := fun x H1 => IsB x H1 (tAndV_k1 tb σ Q)
noncomputable def tAndV (ta tb : TE) : TE := fun σ H Q => ta σ H (tAndV_k2 tb σ Q)
noncomputable def tNotV_k1 (Q : VK) : Bool → Hp → Prop := fun c H1 => Q (.bl (!c)) H1
noncomputable def tNotV_k2 (Q : VK) : V → Hp → Prop := fun x H1 => IsB x H1 (tNotV_k1 Q)
noncomputable def tNotV (ta : TE) : TE := fun σ H Q => ta σ H (tNotV_k2 Q)
theorem pe_one {op} {t : TE} (h : PE X a t) : PE X (.BoolOp op [a] pos) t := fun pins s σ H Q I hw => BoolOp_one (h pins s σ H Q I hw)
theorem pe_and (ha : PE X a ta) (hb : PE X (.BoolOp .And (b :: rest) pos) tb) : PE X (.BoolOp .And (a :: b :: rest) pos) (tAndV ta tb) := by
  intro pins s σ H Q I h
  refine BoolOp_and (thn (ha pins s σ H _ I h) fun v s1 zq9 => ?_)
  obtain ⟨x, H1, I1, r1, q1⟩ := zq9
  obtain ⟨c, rfl, q1⟩ := q1
  cases r1
  refine wpAny_truthy_bool ?_
  cases c with
  | true => exact hb pins s1 σ H1 Q I1 q1
  | false => exact ⟨.bl false, H1, I1, rfl, q1⟩
theorem pe_not (ha : PE X a ta) : PE X (.UnaryOp .Not a pos) (tNotV ta) := by
  intro pins s σ H Q I h
  refine UnaryOp_ (thn (ha pins s σ H _ I h) fun v s1 zq11 => ?_)
  obtain ⟨x, H1, I1, r1, q1⟩ := zq11
  obtain ⟨c, rfl, q1⟩ := q1
  cases r1
  exact not_of (wpAny_truthy_bool ⟨.bl (!c), H1, I1, rfl, q1⟩)
noncomputable def tIf_k1 (ta : TE) (tb : TE) (σ : St) (Q : VK) : Bool → Hp → Prop := fun c H1 => if c = true then ta σ H1 Q else tb σ H1 Q
noncomputable def tIf (t : TT) (ta tb : TE) : TE := fun σ H Q => t σ H (tIf_k1 ta tb σ Q)
theorem pe_ifExp {c : Expr} (hc : PT X c tA) (ha : PE X a ta) (hb : PE X b tb) : PE X (.IfExp c a b pos) (tIf tA ta tb) := by
  intro pins s σ H Q I h
  refine wpAny_IfExp (thn (hc pins s σ H _ I h) fun d s1 zq12 => ?_)
  obtain ⟨H1, I1, q1⟩ := zq12
  cases d with
  | true => exact ha pins s1 σ H1 Q I1 q1
  | false => exact hb pins s1 σ H1 Q I1 q1
end
end L2

namespace L2
open PySem PySem.Spec PyProof.Rows

noncomputable def SqL (K : PySem.W.Frag) (H : Hp) (a : Addr) (xs : List V) : Prop :=
  Rd H a (.lst xs) ∨
    ∃ (o : Obj) (its : Array Value) (n : Nat), K.lookup a = some o ∧ o.cls = .type "list" ∧ o.dict = none ∧ o.data = .seq its n ∧ its.size ≤ sizeLine ∧ Vals xs its.toList ∧ xs.all V.pl = true
noncomputable def SqT (K : PySem.W.Frag) (H : Hp) (a : Addr) (xs : List V) : Prop :=
  Rd H a (.tup xs) ∨
    ∃ (o : Obj) (its : Array Value) (n : Nat), K.lookup a = some o ∧ o.cls = .type "tuple" ∧ o.data = .seq its n ∧ its.size ≤ sizeLine ∧ Vals xs its.toList ∧ xs.all V.pl = true
noncomputable def absV : Value → Option V
  | .none => some .non
  | .bool b => some (.bl b)
  | .int i _ => some (.int i)
  | .str x _ => some (.str x)
  | .bytes b _ => some (.byt b)
  | .float b _ => some (.flt b)
  | .ref a => some (.ref a)
  | .type n => some (.ty n)
  | _ => none
theorem RelV.abs {x : V} {u : Value} (r : RelV x u) (hp : x.pl = true) : absV u = some x := by
  cases x with
  | tks _ _ => cases hp
  | non => cases r; rfl
  | bl _ => cases r; rfl
  | int _ => obtain ⟨t, rfl⟩ := r; rfl
  | str _ => obtain ⟨t, rfl⟩ := r; rfl
  | byt _ => obtain ⟨t, rfl⟩ := r; rfl
  | flt _ => obtain ⟨t, rfl⟩ := r; rfl
  | ref _ => cases r; rfl
  | ty _ => cases r; rfl
theorem RelV.inj {x y : V} {u : Value} (r : RelV x u) (q : RelV y u) (hx : x.pl = true) (hy : y.pl = true) : x = y := Option.some.inj ((r.abs hx).symm.trans (q.abs hy))
theorem Vals.inj : ∀ {xs ys : List V} {us : List Value}, Vals xs us → Vals ys us → xs.all V.pl = true → ys.all V.pl = true → xs = ys
  | _, _, _, .nil, .nil, _, _ => rfl
  | _, _, _, .cons r t, .cons r' t', hx, hy => by
    rw [List.all_cons, Bool.and_eq_true] at hx hy
    rw [r.inj r' hx.1 hy.1, Vals.inj t t' hx.2 hy.2]
section
variable {X : Cx} {pins : List (Addr × Obj)} {σ : St} {H : Hp} {s : Shared} {a : Addr} {xs ys : List V}
theorem SqL.of {K : PySem.W.Frag} (h : H a = some (.lst xs)) : SqL K H a xs := .inl (.inl h)
theorem SqT.of {K : PySem.W.Frag} (h : H a = some (.tup xs)) : SqT K H a xs := .inl (.inl h)
theorem Inv.list (I : Inv X pins σ H s) (h : SqL X.K H a xs) : ∃ its : List Value, Vals xs its ∧ PlainL s.heap a its.toArray ∧ xs.length ≤ sizeLine := by
  rcases h with h | ⟨o, its, n, hk, hc, hd, hs, hz, r, _⟩
  · obtain ⟨z, its, n, r, e⟩ := h.ok I.hok
    exact ⟨its, r, ⟨_, n, e, rfl, rfl, rfl⟩, z⟩
  · refine ⟨its.toList, r, ⟨o, n, I.kIn a o hk, hc, hd, by simpa using hs⟩, ?_⟩
    have e := r.length
    simp only [Array.length_toList] at e
    omega
theorem Inv.tuple (I : Inv X pins σ H s) (h : SqT X.K H a xs) : ∃ its : List Value, Vals xs its ∧ IsTup s.heap a its.toArray ∧ xs.length ≤ sizeLine := by
  rcases h with h | ⟨o, its, n, hk, hc, hs, hz, r, _⟩
  · obtain ⟨z, its, r, p, _⟩ := h.ok I.hok
    exact ⟨its, r, p, z⟩
  · refine ⟨its.toList, r, ⟨o, I.kIn a o hk, hc, n, by simpa using hs⟩, ?_⟩
    have e := r.length
    simp only [Array.length_toList] at e
    omega
theorem Inv.noRd {u : HO} {o : Obj} (I : Inv X pins σ H s) (h : Rd H a u) (hk : X.K.lookup a = some o) : False := by
  have := (I.bs a o (I.mod.kin a o hk)).2
  rcases h with h | ⟨_, h⟩ <;> (rw [this] at h; cases h)
theorem Inv.list_inj (I : Inv X pins σ H s) (h : SqL X.K H a xs) (h' : SqL X.K H a ys) : xs = ys := by
  rcases h with h | ⟨o, its, n, hk, hc, hd, hs, hz, r, p⟩ <;> rcases h' with h' | ⟨o', its', n', hk', hc', hd', hs', hz', r', p'⟩
  · rcases h with h | ⟨_, h⟩ <;> rcases h' with h' | ⟨_, h'⟩ <;> (rw [h] at h'; cases h'; try rfl)
  · exact (I.noRd h hk').elim
  · exact (I.noRd h' hk).elim
  · rw [hk] at hk'; cases hk'
    rw [hs] at hs'; cases hs'
    exact r.inj r' p p'
end

noncomputable abbrev Cx.wish (X : Cx) (E : Value → Shared → Prop) : Cx := { X with xe := E }
noncomputable abbrev Cx.nox (X : Cx) : Cx := X.wish fun _ _ => False
theorem Cx.Ok.wish {X : Cx} (ok : X.Ok) (E : Value → Shared → Prop) : (X.wish E).Ok :=
  ⟨ok.mod, ok.kind, ok.glob, ok.blt, ok.above, ok.inj, ok.has, ok.cab, ok.hd, ok.frames, ok.stk, ok.exf, ok.bs, ok.bsz, ok.noex, ok.exfs, ok.funs, ok.frf⟩
theorem Cx.Ok.unwish {X : Cx} {E : Value → Shared → Prop} (ok : (X.wish E).Ok) : X.Ok :=
  ⟨ok.mod, ok.kind, ok.glob, ok.blt, ok.above, ok.inj, ok.has, ok.cab, ok.hd, ok.frames, ok.stk, ok.exf, ok.bs, ok.bsz, ok.noex, ok.exfs, ok.funs, ok.frf⟩
section
variable {X : Cx} {pins : List (Addr × Obj)} {σ : St} {H : Hp} {s : Shared} {E : Value → Shared → Prop}
theorem InvW.wish (I : InvW X pins σ H s) (E : Value → Shared → Prop) : InvW (X.wish E) pins σ H s := ⟨I.ok.wish E, I.os, I.bare, I.base, I.loc, I.cell, I.free, I.freeC, I.pin, I.hok, I.len⟩
theorem Inv.wish (I : Inv X pins σ H s) (E : Value → Shared → Prop) : Inv (X.wish E) pins σ H s := ⟨I.toInvW.wish E, I.low⟩
theorem InvW.unwish (I : InvW (X.wish E) pins σ H s) : InvW X pins σ H s := ⟨I.ok.unwish, I.os, I.bare, I.base, I.loc, I.cell, I.free, I.freeC, I.pin, I.hok, I.len⟩
theorem SP.unwish {D : Ends} {f : Flow} {s' : Shared} (h : SP (X.wish E) pins D f s') : SP X pins D f s' := by
  cases f with
  | next => obtain ⟨σ', H', I, q⟩ := h; exact ⟨σ', H', I.unwish, q⟩
  | brk => obtain ⟨σ', H', I, q⟩ := h; exact ⟨σ', H', I.unwish, q⟩
  | cont => obtain ⟨σ', H', I, q⟩ := h; exact ⟨σ', H', I.unwish, q⟩
  | ret u => obtain ⟨v, σ', H', I, r, q⟩ := h; exact ⟨v, σ', H', I.unwish, r, q⟩
theorem PSs.nox {st : List Stmt} {t : TS} (h : PSs X.nox st t) : PSs X st t := fun pins s σ H D I hw =>
  wpAny_mono (h pins s σ H D (I.wish _) hw) (fun _ _ q => q.unwish) fun _ _ z => False.elim z
end

section
variable {X : Cx} {st : Stmt} {rest : List Stmt} {t u : TS} {e : Expr} {te : TE} {pos : Pos}
noncomputable def tNext : TS := fun D σ H => D.nx σ H
noncomputable def tSeq (t u : TS) : TS := fun D σ H => t { D with nx := u D } σ H
theorem pss_nil : PSs X [] tNext := fun _ _ σ H _ I h => wpAny_execs_nil ⟨σ, H, I, h⟩
theorem pss_cons (h1 : PS X st t) (h2 : PSs X rest u) : PSs X (st :: rest) (tSeq t u) := by
  intro pins s σ H D I h
  refine wpAny_execs_cons (thn (h1 pins s σ H { D with nx := u D } I h) fun f s1 q => ?_)
  cases f with
  | next =>
    obtain ⟨σ', H', I', q⟩ := q
    exact h2 pins s1 σ' H' D I' q
  | ret v => exact q.w
  | brk => exact q.w
  | cont => exact q.w
theorem pss_one (h1 : PS X st t) : PSs X [st] t := by
  intro pins s σ H D I h
  refine wpAny_execs_cons (thn (h1 pins s σ H D I h) fun f s1 q => ?_)
  cases f with
  | next => exact wpAny_execs_nil q.w
  | ret v => exact q.w
  | brk => exact q.w
  | cont => exact q.w
theorem Inv.quiet {pins : List (Addr × Obj)} {σ : St} {H : Hp} {s : Shared} (I : Inv X pins σ H s) : interactive X.env = false := by simp [interactive, I.ok.kind]
noncomputable def tDrop_k1 (D : Ends) (σ : St) : V → Hp → Prop := fun _ H1 => D.nx σ H1
noncomputable def tDrop (te : TE) : TS := fun D σ H => te σ H (tDrop_k1 D σ)
theorem ps_expr (he : PE X e te) (hs : swapsWith e none pos.line X.env = pure false := by rfl) : PS X (.Expr e pos) (tDrop te) := by
  intro pins s σ H D I h
  exact wpAny_Expr_any (thn (he pins s σ H _ I h) fun v s1 zq15 => (by obtain ⟨x, H1, I1, r1, q1⟩ := zq15; exact ⟨σ, H1, I1, q1⟩)) I.quiet hs
noncomputable def tRet (te : TE) : TS := fun D σ H => te σ H D.rt
theorem ps_ret (he : PE X e te) : PS X (.Return (some e) pos) (tRet te) := by
  intro pins s σ H D I h
  exact wpAny_Return_some (thn (he pins s σ H _ I h) fun v s1 zq16 => (by obtain ⟨x, H1, I1, r1, q1⟩ := zq16; exact ⟨x, σ, H1, I1, r1, q1⟩))
noncomputable def tIfS_k1 (t : TS) (u : TS) (D : Ends) (σ : St) : Bool → Hp → Prop := fun b H1 => if b = true then t D σ H1 else u D σ H1
noncomputable def tIfS (c : TT) (t u : TS) : TS := fun D σ H => c σ H (tIfS_k1 t u D σ)
theorem ps_if {c : Expr} {a b : List Stmt} {tc : TT} (hc : PT X c tc) (ha : PSs X a t) (hb : PSs X b u) : PS X (.If c a b pos) (tIfS tc t u) := by
  intro pins s σ H D I h
  refine wpAny_If (thn (hc pins s σ H _ I h) fun d s1 zq17 => ?_)
  obtain ⟨H1, I1, q1⟩ := zq17
  cases d with
  | true => exact ha pins s1 σ H1 D I1 q1
  | false => exact hb pins s1 σ H1 D I1 q1
end

noncomputable abbrev TG := V → St → Hp → (St → Hp → Prop) → Prop
noncomputable abbrev TGs := List V → St → Hp → (St → Hp → Prop) → Prop
noncomputable def PG (X : Cx) (target : Expr) (t : TG) : Prop :=
  ∀ (pins : List (Addr × Obj)) (s : Shared) (σ : St) (H : Hp) (v : V) (u : Value) (Q : St → Hp → Prop), Inv X pins σ H s → RelV v u → t v σ H Q →
    wpAny (model X.prog X.w) X.A (assign target X.env u) (fun _ s' => ∃ σ' H', Inv X pins σ' H' s' ∧ Q σ' H') X.xe s
noncomputable def PGs (X : Cx) (ts : List Expr) (t : TGs) : Prop :=
  ∀ (pins : List (Addr × Obj)) (s : Shared) (σ : St) (H : Hp) (vs : List V) (us : List Value) (Q : St → Hp → Prop), Inv X pins σ H s → Vals vs us → t vs σ H Q →
    wpAny (model X.prog X.w) X.A (assignInOrder ((assignEach ts X.env).map (·.2)) us) (fun _ s' => ∃ σ' H', Inv X pins σ' H' s' ∧ Q σ' H') X.xe s
section
variable {X : Cx} {pos : Pos}
noncomputable def gName (i : Nat) : TG := fun v σ H Q => Q (σ.set i (some v)) H
theorem pg_name {i : Nat} {x : Str} (hN : X.N.Nodup) (hi : X.N[i]? = some x) (hx : Loc X.env.scope x) (hf : X.fn x = true ∨ X.env.scope.names.lookup x = some .local := by first | exact .inl rfl | exact .inr rfl | assumption) : PG X (.Name x pos) (gName i) := by
  intro pins s σ H v u Q I r h
  exact wpAny_assign_Name (store_ok I hN hi hx r (fun s' I' => ⟨_, H, I', h⟩) hf)
noncomputable def gNil : TGs := fun vs σ H Q => vs = [] ∧ Q σ H
noncomputable def gCons (t : TG) (u : TGs) : TGs := fun vs σ H Q => ∃ v r, vs = v :: r ∧ t v σ H fun σ' H' => u r σ' H' Q
theorem pgs_nil : PGs X [] gNil := by
  intro pins s σ H vs us Q I r h
  obtain ⟨e, h⟩ := h
  subst e
  cases r
  exact assignInOrder_nil ⟨σ, H, I, h⟩
theorem pgs_cons {e : Expr} {es : List Expr} {t : TG} {u : TGs} (h1 : PG X e t) (h2 : PGs X es u)
    (hs : (assignEach (e :: es) X.env).map (·.2) = assign e X.env :: (assignEach es X.env).map (·.2) := by rfl) : PGs X (e :: es) (gCons t u) := by
  intro pins s σ H vs us Q I r h
  obtain ⟨v, vr, e1, h⟩ := h
  subst e1
  cases r with
  | cons r rr =>
    rw [hs]
    refine assignInOrder_cons (thn (h1 pins s σ H _ _ _ I r h) fun _ s1 zq18 => ?_)
    obtain ⟨σ1, H1, I1, q1⟩ := zq18
    exact h2 pins s1 σ1 H1 _ _ Q I1 rr q1
noncomputable def gTup (K : PySem.W.Frag) (n : Nat) (t : TGs) : TG := fun v σ H Q => ∃ a xs, v = .ref a ∧ SqT K H a xs ∧ xs.length = n ∧ t xs σ H Q
theorem pg_tup {es : List Expr} {k : Nat} {t : TGs} {n : Nat} (hc : X.calm = true) (h : PGs X es t)
    (hn : (assignEach es X.env).length = n := by rfl) (hst : (assignEach es X.env).findIdx? (·.1) = none := by rfl) : PG X (.Tuple es k pos) (gTup X.K n t) := by
  intro pins s σ H v u Q I r hw
  obtain ⟨a, xs, e1, hq, hl, hw⟩ := hw
  subst e1
  cases r
  obtain ⟨its, rv, ht, hz⟩ := I.tuple hq
  refine assign_Tuple_tuple (I.ok.hd hc) ht (by simp [hn, ← hl, rv.length]) hst fun h' hx => ?_
  have I1 : Inv X pins σ H { s with heap := h' } := (I.kept (t' := s.toks) fun b o e => hx b o (Nat.ne_of_lt (Heap.lt_size e)) e).up I.low
  exact h pins _ σ H xs _ Q I1 (by simpa using rv) hw
noncomputable def tAsg_k1 (g : TG) (D : Ends) (σ : St) : V → Hp → Prop := fun x H1 => g x σ H1 D.nx
noncomputable def tAsg (te : TE) (g : TG) : TS := fun D σ H => te σ H (tAsg_k1 g D σ)
theorem ps_set {i : Nat} {x : Str} {e : Expr} {te : TE} {pos' : Pos} (hN : X.N.Nodup) (hi : X.N[i]? = some x) (hx : Loc X.env.scope x) (he : PE X e te) (hs : swapsWith e (some (.Name x pos')) pos.line X.env = pure false := by rfl) (hf : X.fn x = true ∨ X.env.scope.names.lookup x = some .local := by first | exact .inl rfl | exact .inr rfl | assumption) :
    PS X (.Assign [.Name x pos'] e pos) (tAsg te (gName i)) := by
  intro pins s σ H D I h
  refine wpAny_Assign_Name (thn (he pins s σ H _ I h) fun v s1 zq23 => ?_) hs
  obtain ⟨y, H1, I1, r1, q1⟩ := zq23
  exact store_ok I1 hN hi hx r1 (fun s2 I2 => ⟨_, H1, I2, q1⟩) hf
end

section
variable {X : Cx} {pos : Pos}
end

structure It where
  go : Nat → Hp → Prop
  yld : Nat → Hp → V → Hp → Prop
  stop : Nat → Hp → Prop
noncomputable def FpOk (X : Cx) (pins : List (Addr × Obj)) (H : Hp) (b : Addr) : Prop :=
  H b = none ∧ b ≠ X.env.locals ∧ b ∉ X.fs ∧ (b ∈ X.ex ∨ X.s₀.heap.objs.size ≤ b) ∧ (∀ x c, X.env.cells.lookup x = some c → c ≠ b) ∧ ∀ p ∈ X.pn ++ pins, p.1 ≠ b
theorem Inv.fpOk {X : Cx} {pins : List (Addr × Obj)} {σ : St} {H H' : Hp} {s : Shared} {b : Addr} (I : Inv X pins σ H s) (hb : s.heap.objs.size ≤ b) (hn : H' b = none) : FpOk X pins H' b := by
  refine ⟨hn, Nat.ne_of_gt (Nat.lt_of_lt_of_le I.lt hb), I.nofs hb, .inr (Nat.le_trans I.sz hb), fun x c e z => ?_, fun p hp z => ?_⟩
  · obtain ⟨v, q⟩ := I.cell x c e
    exact absurd (Nat.lt_of_lt_of_le q.lt (by rw [z]; exact hb)) (Nat.lt_irrefl _)
  · exact absurd (Nat.lt_of_lt_of_le (Heap.lt_size (I.pin p hp).1) (by rw [z]; exact hb)) (Nat.lt_irrefl _)
structure Turn (P : Program) (w : World) (K : PySem.W.Frag) (tg : Expr) (J : It) (fp : List Addr) (it : Addr) (tn : Nat → Heap → Prop) : Prop where
  mem : it ∈ fp
  obj : ∀ i h, tn i h → ∀ b ∈ fp, ∃ o, h.get? b = some o ∧ ∀ v, o.data ≠ .cell v
  keep : ∀ i h h', tn i h → (∀ b ∈ fp, ∀ o, h.get? b = some o → h'.get? b = some o) → tn i h'
  item : ∀ (X : Cx), X.prog = P → X.w = w → X.K = K → X.calm = true → ∀ (i : Nat) (pins : List (Addr × Obj)) (s : Shared) (σ : St) (H : Hp) (E : Value → Shared → Prop), Inv X pins σ H s → (∀ b ∈ fp, FpOk X pins H b) → tn i s.heap → J.go i H →
    wpAny (model P w) X.A (pyNext (.ref it)) (fun r s1 => ∃ u, r = some u ∧
      wpAny (model P w) X.A (letOwnedTupleGo tg (.ref it) u) (fun _ s2 => ∃ x H', Inv X pins σ H' s2 ∧ RelV x u ∧ J.yld i H x H' ∧ tn (i + 1) s2.heap ∧ ∀ b ∈ fp, H' b = none) E s1) E s
  done : ∀ (X : Cx), X.prog = P → X.w = w → X.K = K → X.calm = true → ∀ (i : Nat) (pins : List (Addr × Obj)) (s : Shared) (σ : St) (H : Hp) (E : Value → Shared → Prop), Inv X pins σ H s → (∀ b ∈ fp, FpOk X pins H b) → tn i s.heap → J.stop i H →
    wpAny (model P w) X.A (pyNext (.ref it)) (fun r s1 => r = none ∧ Inv X pins σ H s1) E s
  self : ∀ (A : Around) (i : Nat) (s : Shared) (Q : Value → Shared → Prop) (E : Value → Shared → Prop), tn i s.heap → Q (.ref it) s → wpAny (model P w) A (pyIter (.ref it)) Q E s
noncomputable abbrev TI := St → Hp → (It → Hp → Prop) → Prop
noncomputable def PIE (X : Cx) (pins : List (Addr × Obj)) (σ : St) (tg : Expr) (R : It → Hp → Prop) (itv : Value) (s2 : Shared) : Prop :=
  ∃ (it : Addr) (fp : List Addr) (tn : Nat → Heap → Prop) (J : It) (H' : Hp), itv = .ref it ∧ Inv X pins σ H' s2 ∧ Turn X.prog X.w X.K tg J fp it tn ∧ tn 0 s2.heap ∧ (∀ b ∈ fp, FpOk X pins H' b) ∧ R J H'
noncomputable def PI (X : Cx) (tg iter : Expr) (wi : TI) : Prop :=
  ∀ (pins : List (Addr × Obj)) (s : Shared) (σ : St) (H : Hp) (R : It → Hp → Prop), Inv X pins σ H s → wi σ H R →
    wpAny (model X.prog X.w) X.A (eval iter X.env) (fun v s1 => wpAny (model X.prog X.w) X.A (pyIter v) (PIE X pins σ tg R) X.xe s1) X.xe s

theorem go_of {M : Model} {A : Around} {E : Value → Shared → Prop} {s : Shared} {tg : Expr} {it : Addr} {u : Value} {o : Obj} {n : String} {vs : Array Value} {Q : Unit → Shared → Prop} (ho : s.heap.get? it = some o) (hc : o.cls = .type n) (hd : o.data = .fields vs)
    (hn : ["enumerate", "zip", "dict_itemiterator", "dict_reverseitemiterator", "odict_iterator", "itertools.zip_longest", "itertools.pairwise"].contains n = false) (hQ : Q () s) : wpAny M A (letOwnedTupleGo tg (.ref it) u) Q E s := by
  unfold letOwnedTupleGo
  cases tg <;> first
    | exact wpAny_pure hQ
    | (cases u <;> first
        | exact wpAny_pure hQ
        | (refine wpAny_bind (wpAny_load ho ?_)
           rw [hc, hd]
           show wpAny M A (if (["enumerate", "zip", "dict_itemiterator", "dict_reverseitemiterator", "odict_iterator", "itertools.zip_longest", "itertools.pairwise"].contains n && vs[0]? == some (rawInt _)) = true then _ else _) Q E s
           rw [if_neg (by intro h; rw [hn, Bool.false_and] at h; cases h)]
           exact wpAny_pure hQ))

noncomputable def Itl (K : PySem.W.Frag) (a : Addr) : It :=
  ⟨fun i H => ∃ xs x, SqL K H a xs ∧ xs[i]? = some x, fun i H x H' => H' = H ∧ ∀ xs, SqL K H a xs → xs[i]? = some x, fun i H => ∃ xs, SqL K H a xs ∧ xs.length ≤ i⟩
noncomputable def Itr (lo : Int) (n : Nat) : It := ⟨fun i _ => i < n, fun i H x H' => H' = H ∧ x = .int (lo + i), fun i _ => n ≤ i⟩
theorem turn_list {P : Program} {w : World} {K : PySem.W.Frag} {tg : Expr} (a it : Addr) : Turn P w K tg (Itl K a) [it] it (fun i h => h.IsListIter it a i) where
  mem := by simp
  obj := fun i h st b hb => by
    have e : b = it := by simpa using hb
    subst e
    obtain ⟨o, e, c, d⟩ := st
    exact ⟨o, e, fun v z => by rw [d] at z; cases z⟩
  keep := fun i h h' st k => st.at fun o e => k it (by simp) o e
  item := by
    intro X hP hw hK hc i pins s σ H E I hf st hg
    subst hP hw hK
    obtain ⟨xs, x, hq, hx⟩ := hg
    obtain ⟨its, rv, p, hz⟩ := I.list hq
    obtain ⟨u, hu, ru⟩ := rv.get hx
    obtain ⟨f0, f1, f2, f3, f4, f5⟩ := hf it (by simp)
    refine wpAny_pyNext_list_item st p.isList (x := u) (by simpa using hu) fun h' st' sb => ?_
    have I1 : Inv X pins σ H { s with heap := h' } := (I.turned (t' := s.toks) (fun b o hb e => (sb.2 b hb).trans e) f0 f1 f3 f4 f5).up I.low
    obtain ⟨o, e, c, d⟩ := id st'
    exact ⟨u, rfl, go_of (s := { s with heap := h' }) e c d (by decide) ⟨x, H, I1, ru, ⟨rfl, fun ys hy => by rw [I.list_inj hy hq]; exact hx⟩, st', fun b hb => (hf b hb).1⟩⟩
  done := by
    intro X hP hw hK hc i pins s σ H E I hf st hg
    subst hP hw hK
    obtain ⟨xs, hq, hx⟩ := hg
    obtain ⟨its, rv, p, hz⟩ := I.list hq
    obtain ⟨f0, f1, f2, f3, f4, f5⟩ := hf it (by simp)
    have hl := rv.length
    exact wpAny_pyNext_list_end (I.ok.hd hc) st p.isList (by simp; omega) fun h' eb => ⟨rfl, (I.turned (t' := s.toks) (fun b o hb e => eb b o hb e) f0 f1 f3 f4 f5).up I.low⟩
  self := fun _ _ _ _ _ st h => wpAny_pyIter_listiter st h
theorem turn_range {P : Program} {w : World} {K : PySem.W.Frag} {tg : Expr} (it : Addr) (lo : Int) (n : Nat) : Turn P w K tg (Itr lo n) [it] it (fun i h => IsRangeIter h it (lo + (i : Nat) * 1) ((n : Int) - (i : Nat)) 1) where
  mem := by simp
  obj := fun i h st b hb => by
    have e : b = it := by simpa using hb
    subst e
    exact ⟨_, st, fun v z => by
      have z' : Data.fields _ = Data.cell v := z
      cases z'⟩
  keep := fun i h h' st k => k it (by simp) _ st
  item := by
    intro X hP hw hK hc i pins s σ H E I hf st hg
    subst hP hw hK
    obtain ⟨f0, f1, f2, f3, f4, f5⟩ := hf it (by simp)
    have W := Walks.range (prog := X.prog) (w := X.w) (I.ok.hd hc) it lo 1 n
    refine wt I.low (W.item i s _ _ hg st fun v h' tk hv st' kk hl => ?_)
    obtain ⟨t, rfl⟩ := hv
    have I1 : Inv X pins σ H { s with heap := h', toks := tk } := (I.turned (fun b o hb e => kk b o (by simpa using hb) e) f0 f1 f3 f4 f5).up hl
    refine ⟨_, rfl, go_of (s := { s with heap := h', toks := tk }) (n := "range_iterator") st' rfl rfl (by decide) ⟨.int (lo + i), H, I1, ⟨t, ?_⟩, ⟨rfl, rfl⟩, st', fun b hb => (hf b hb).1⟩⟩
    rw [Int.mul_one]
  done := by
    intro X hP hw hK hc i pins s σ H E I hf st hg
    subst hP hw hK
    obtain ⟨f0, f1, f2, f3, f4, f5⟩ := hf it (by simp)
    exact wpAny_pyNext_range_end (I.ok.hd hc) st (by have : n ≤ i := hg; omega) fun h' eb => ⟨rfl, (I.turned (t' := s.toks) (fun b o hb e => eb b o hb e) f0 f1 f3 f4 f5).up I.low⟩
  self := fun _ _ _ _ _ st h => wpAny_pyIter_rangeiter st h
end L2

namespace L2
open PySem PySem.Spec PyProof.Rows
section
variable {X : Cx} {tg : Expr}
noncomputable def iList (K : PySem.W.Frag) (tl : TE) : TI := fun σ H R => tl σ H fun x H1 => ∃ a, x = .ref a ∧ (∃ xs, SqL K H1 a xs) ∧ R (Itl K a) H1
theorem pi_list {l : Expr} {tl : TE} (hl : PE X l tl) : PI X tg l (iList X.K tl) := by
  intro pins s σ H R I h
  refine thn (hl pins s σ H _ I h) fun v s1 zq34 => ?_
  obtain ⟨x, H1, I1, r1, q1⟩ := zq34
  obtain ⟨a, e, ⟨xs, hq⟩, q⟩ := q1
  subst e
  cases r1
  obtain ⟨its, rv, p, hz⟩ := I1.list hq
  refine wpAny_pyIter_list p.isList ?_
  refine ⟨s1.heap.objs.size, [s1.heap.objs.size], _, _, H1, rfl, (I1.kept (t' := s1.toks) fun b o e => Heap.get?_push_of_some _ e).up I1.low, turn_list a _, ⟨_, Heap.get?_push_size _ rfl, rfl, rfl⟩, fun b hb => ?_, q⟩
  have e : b = s1.heap.objs.size := by simpa using hb
  subst e
  exact I1.fpOk (Nat.le_refl _) (I1.hok.fresh (Nat.le_refl _))
theorem range_it {pins : List (Addr × Obj)} {σ : St} {H : Hp} {s : Shared} {R : It → Hp → Prop} {E : Value → Shared → Prop} {lo hi : Int} {t u v : Tok} {tk : Nat} (I : Inv X pins σ H s) (h1 : -(2 ^ 62) ≤ lo) (h2 : lo < 2 ^ 62) (h3 : -(2 ^ 62) ≤ hi) (h4 : hi < 2 ^ 62)
    (q : R (Itr lo (hi - lo).toNat) H) (hk : X.lo ≤ tk) : wpAny (model X.prog X.w) X.A (pyIter (.ref s.heap.objs.size)) (PIE X pins σ tg R) E { s with heap := s.heap.push { cls := .type "range", data := .fields #[.int lo t, .int hi u, .int 1 v] }, toks := tk } := by
  refine wpAny_pyIter_range (IsRange.new ..) (small_one h1 h2 h3 h4) ?_
  have I1 : Inv X pins σ H { s with heap := s.heap.push { cls := .type "range", data := .fields #[.int lo t, .int hi u, .int 1 v] }, toks := tk } := (I.kept fun b o e => Heap.get?_push_of_some _ e).up hk
  refine ⟨(s.heap.push { cls := .type "range", data := .fields #[.int lo t, .int hi u, .int 1 v] }).objs.size, [(s.heap.push { cls := .type "range", data := .fields #[.int lo t, .int hi u, .int 1 v] }).objs.size], _, _, H, rfl,
    (I1.kept (t' := tk) fun b o e => Heap.get?_push_of_some _ e).up hk, turn_range _ lo (hi - lo).toNat, ?_, fun b hb => ?_, q⟩
  · have e1 : lo + ((0 : Nat) : Int) * 1 = lo := by simp
    have e2 : (((hi - lo).toNat : Nat) : Int) - ((0 : Nat) : Int) = Builtin.Range.rangeSize lo hi 1 := by rw [rangeSize_one]; split <;> omega
    show IsRangeIter _ _ (lo + ((0 : Nat) : Int) * 1) ((((hi - lo).toNat : Nat) : Int) - ((0 : Nat) : Int)) 1
    rw [e1, e2]
    exact Heap.get?_push_size _ rfl
  · have e : b = (s.heap.push { cls := .type "range", data := .fields #[.int lo t, .int hi u, .int 1 v] }).objs.size := by simpa using hb
    subst e
    exact I1.fpOk (Nat.le_refl _) (I1.hok.fresh (Nat.le_refl _))
noncomputable def iRng1 (ta : TA) : TI := fun σ H R => ta σ H fun vs H1 => ∃ j : Int, vs = [.int j] ∧ -(2 ^ 62) ≤ j ∧ j < 2 ^ 62 ∧ R (Itr 0 j.toNat) H1
theorem pi_range1 {a : Expr} {ta : TA} {p pos : Pos} (hg : Gl X "range") (hm : X.mg "range" = none) (ha : PA X [a] ta) (hs : starEach [a] X.env = [(false, eval a X.env)] := by rfl) : PI X tg (.Call (.Name "range" p) [a] [] pos) (iRng1 ta) := by
  intro pins s σ H R I h
  refine Call_ (ld_blt I hg hm boot_range (PyProof.Rows.callWith_type1 (thn (ha pos pins s σ H _ I h) fun us s1 zq36 => ?_) hs rfl))
  obtain ⟨vs, H1, I1, r1, q1⟩ := zq36
  obtain ⟨j, e, q1, q2, q⟩ := q1
  subst e
  cases r1 with
  | cons r rr =>
    cases rr
    obtain ⟨t, rfl⟩ := r
    exact wt I1.low (call_range_1 fun hl => range_it I1 (by omega) (by omega) q1 q2 (by simpa using q) hl)

noncomputable def tFor (wi : TI) (g : TG) (tb : TS) : TS := fun D σ H => wi σ H fun J H1 => ∃ W : Nat → Nat → St → Hp → Prop, (∃ m, W 0 m σ H1) ∧ ∀ i m σ H, W i m σ H →
  (J.stop i H ∧ D.nx σ H) ∨ (J.go i H ∧ ∃ N : St → Hp → Prop, (∀ σ' H', N σ' H' → ∃ m', m' < m ∧ W (i + 1) m' σ' H') ∧ ∀ x H', J.yld i H x H' → g x σ H' fun σ2 H2 => tb { D with nx := N, ct := N, bk := D.nx } σ2 H2)
noncomputable def pinsAt (fp : List Addr) (h : Heap) : List (Addr × Obj) := fp.filterMap fun b => (h.get? b).map fun o => (b, o)
theorem mem_pinsAt {fp : List Addr} {h : Heap} {b : Addr} {o : Obj} (hb : b ∈ fp) (e : h.get? b = some o) : (b, o) ∈ pinsAt fp h := List.mem_filterMap.mpr ⟨b, hb, by rw [e]; rfl⟩
theorem of_pinsAt {fp : List Addr} {h : Heap} {p : Addr × Obj} (hp : p ∈ pinsAt fp h) : p.1 ∈ fp ∧ h.get? p.1 = some p.2 := by
  obtain ⟨b, hb, e⟩ := List.mem_filterMap.mp hp
  cases q : h.get? b with
  | none => rw [q] at e; cases e
  | some o =>
    rw [q] at e
    have e' : (b, o) = p := Option.some.inj e
    subst e'
    exact ⟨hb, q⟩
theorem Inv.pinned {pins : List (Addr × Obj)} {σ : St} {H : Hp} {s : Shared} {fp : List Addr} (I : Inv X pins σ H s) (hf : ∀ b ∈ fp, FpOk X pins H b) (ho : ∀ b ∈ fp, ∃ o, s.heap.get? b = some o ∧ ∀ v, o.data ≠ .cell v) : Inv X (pins ++ pinsAt fp s.heap) σ H s :=
  I.pins_of fun p hp => (List.mem_append.mp hp).elim (fun z => I.pin p (List.mem_append_right _ z)) fun z => by
    obtain ⟨hb, e⟩ := of_pinsAt z
    obtain ⟨f0, f1, f2, _⟩ := hf p.1 hb
    obtain ⟨o, e', d⟩ := ho p.1 hb
    rw [e] at e'; cases e'
    exact ⟨e, f0, f1, f2, d⟩
theorem Inv.unpinned {pins pl : List (Addr × Obj)} {σ : St} {H : Hp} {s : Shared} (I : Inv X (pins ++ pl) σ H s) : Inv X pins σ H s := I.pins_of fun p hp => I.pin p (List.mem_append_right _ (List.mem_append_left _ hp))
theorem ps_for {iter : Expr} {body : List Stmt} {wi : TI} {g : TG} {tb : TS} {pos : Pos} (hp : PassesOwn (model X.prog X.w) X.A X.env X.xe) (hc : X.calm = true) (hi : PI X tg iter wi) (hg : PG X tg g) (hb : PSs X body tb)
    (hs : ∀ x, foldedSetIterable iter X.env x = pure x := by intro _; rfl) : PS X (.For tg iter body [] pos) (tFor wi g tb) := by
  intro pins s σ H D I h
  refine wpAny_For (thn (hi pins s σ H _ I h) fun v s1 h1 => thn h1 fun itv s2 h2 => ?_) hs
  obtain ⟨it, fp, tn, J, H2, e, I2, T, st2, f2, W, ⟨m0, w0⟩, turn⟩ := h2
  subst e
  -- what stays true of the iterator's objects through the loop
  have stat : ∀ {H' : Hp}, (∀ b ∈ fp, H' b = none) → ∀ b ∈ fp, FpOk X pins H' b := fun hn b hb => ⟨hn b hb, (f2 b hb).2⟩
  refine codeAny_forLoop_any (fun n s' => ∃ i σ' H', Inv X pins σ' H' s' ∧ tn i s'.heap ∧ (∀ b ∈ fp, H' b = none) ∧ W i n σ' H') ?_ m0 ⟨0, σ, H2, I2, st2, fun b hb => (f2 b hb).1, w0⟩
  rintro n s3 ⟨i, σ3, H3, I3, st3, fr3, w3⟩
  rcases turn i n σ3 H3 w3 with ⟨stop, qn⟩ | ⟨go, N, hN, step⟩
  · refine wpAny_passesOwn hp (thn (T.done X rfl rfl rfl hc i pins s3 σ3 H3 X.xe I3 (stat fr3) st3 stop) fun r s4 zq38 => ?_)
    obtain ⟨hr, I4⟩ := zq38
    subst hr
    exact wpAny_execs_nil ⟨σ3, H3, I4, qn⟩
  · refine wpAny_passesOwn hp (thn (T.item X rfl rfl rfl hc i pins s3 σ3 H3 X.xe I3 (stat fr3) st3 go) fun r s4 zq39 => ?_)
    obtain ⟨u, hr, h4⟩ := zq39
    subst hr
    refine wpAny_passesOwn hp (thn h4 fun _ s5 zq40 => ?_)
    obtain ⟨x, H5, I5, r5, y5, st5, fr5⟩ := zq40
    have I5' := I5.pinned (stat fr5) (T.obj _ _ st5)
    refine wpAny_passesOwn hp (thn (hg _ s5 σ3 H5 x u _ I5' r5 (step x H5 y5)) fun _ s6 zq41 => ?_)
    obtain ⟨σ6, H6, I6, q6⟩ := zq41
    refine wpAny_passesOwn hp (thn (hb _ s6 σ6 H6 _ I6 q6) fun f s7 q7 => ?_)
    have again : ∀ {σ7 : St} {H7 : Hp}, Inv X (pins ++ pinsAt fp s5.heap) σ7 H7 s7 → N σ7 H7 → ∃ m, m < n ∧ ∃ i σ' H', Inv X pins σ' H' s7 ∧ tn i s7.heap ∧ (∀ b ∈ fp, H' b = none) ∧ W i m σ' H' := fun {σ7 H7} I7 n7 => by
      obtain ⟨m', hm, w7⟩ := hN σ7 H7 n7
      refine ⟨m', hm, i + 1, σ7, H7, I7.unpinned, T.keep _ _ _ st5 fun b hb o e => (I7.pin (b, o) (List.mem_append_right _ (List.mem_append_right _ (mem_pinsAt hb e)))).1, fun b hb => ?_, w7⟩
      obtain ⟨o, e, d⟩ := T.obj _ _ st5 b hb
      exact (I7.pin (b, o) (List.mem_append_right _ (List.mem_append_right _ (mem_pinsAt hb e)))).2.1
    cases f with
    | next => obtain ⟨σ7, H7, I7, n7⟩ := q7; exact again I7 n7
    | cont => obtain ⟨σ7, H7, I7, n7⟩ := q7; exact again I7 n7
    | brk => obtain ⟨σ7, H7, I7, q7⟩ := q7; exact ⟨σ7, H7, I7.unpinned, q7⟩
    | ret v => obtain ⟨x7, σ7, H7, I7, r7, q7⟩ := q7; exact ⟨x7, σ7, H7, I7.unpinned, r7, q7⟩
end

theorem for_range {lo : Int} {n : Nat} {g : TG} {tb : TS} {D : Ends} {σ : St} {H : Hp} (Pv : Nat → St → Hp → Prop) (h0 : Pv 0 σ H)
    (hs : ∀ i σ H, i < n → Pv i σ H → g (.int (lo + i)) σ H fun σ2 H2 => tb { D with nx := Pv (i + 1), ct := Pv (i + 1), bk := D.nx } σ2 H2) (hd : ∀ σ H, Pv n σ H → D.nx σ H) :
    ∃ W : Nat → Nat → St → Hp → Prop, (∃ m, W 0 m σ H) ∧ ∀ i m σ H, W i m σ H →
      ((Itr lo n).stop i H ∧ D.nx σ H) ∨ ((Itr lo n).go i H ∧ ∃ N : St → Hp → Prop, (∀ σ' H', N σ' H' → ∃ m', m' < m ∧ W (i + 1) m' σ' H') ∧ ∀ x H', (Itr lo n).yld i H x H' → g x σ H' fun σ2 H2 => tb { D with nx := N, ct := N, bk := D.nx } σ2 H2) := by
  refine ⟨fun i m σ H => m = n - i ∧ i ≤ n ∧ Pv i σ H, ⟨n, by simp, Nat.zero_le _, h0⟩, ?_⟩
  rintro i m σ H ⟨rfl, hi, p⟩
  by_cases hlt : i < n
  · refine .inr ⟨hlt, Pv (i + 1), fun σ' H' p' => ⟨n - (i + 1), by omega, rfl, hlt, p'⟩, fun x H' y => ?_⟩
    obtain ⟨e, y⟩ := y
    subst e y
    exact hs i σ _ hlt p
  · have e : i = n := by omega
    subst e
    exact .inl ⟨Nat.le_refl _, hd σ H p⟩
end L2

namespace L2
open PySem PySem.Spec PyProof.Rows

noncomputable abbrev R2 := V → V → Hp → VK → Prop
noncomputable def OpR (X : Cx) (f : Value → Value → Sem Value) (r : R2) : Prop :=
  ∀ (pins : List (Addr × Obj)) (s : Shared) (σ : St) (H : Hp) (x y : V) (v u : Value) (Q : VK), Inv X pins σ H s → RelV x v → RelV y u → r x y H Q →
    wpAny (model X.prog X.w) X.A (f v u) (EP X pins σ Q) X.xe s
noncomputable def UnR (X : Cx) (f : Value → Sem Value) (r : V → Hp → VK → Prop) : Prop :=
  ∀ (pins : List (Addr × Obj)) (s : Shared) (σ : St) (H : Hp) (x : V) (v : Value) (Q : VK), Inv X pins σ H s → RelV x v → r x H Q →
    wpAny (model X.prog X.w) X.A (f v) (EP X pins σ Q) X.xe s
noncomputable def CallR (X : Cx) (f : Value) (r : List V → Hp → VK → Prop) : Prop :=
  ∀ (pins : List (Addr × Obj)) (s : Shared) (σ : St) (H : Hp) (xs : List V) (us : List Value) (Q : VK), Inv X pins σ H s → Vals xs us → r xs H Q →
    wpAny (model X.prog X.w) X.A (call f us) (EP X pins σ Q) X.xe s
noncomputable def TruR (X : Cx) (r : V → Hp → (Bool → Hp → Prop) → Prop) : Prop :=
  ∀ (pins : List (Addr × Obj)) (s : Shared) (σ : St) (H : Hp) (x : V) (v : Value) (Q : Bool → Hp → Prop), Inv X pins σ H s → RelV x v → r x H Q →
    wpAny (model X.prog X.w) X.A (truthy v) (TP X pins σ Q) X.xe s

noncomputable def tOp_k1 (r : R2) (Q : VK) (x : V) : V → Hp → Prop := fun y H2 => r x y H2 Q
noncomputable def tOp_k2 (r : R2) (tb : TE) (σ : St) (Q : VK) : V → Hp → Prop := fun x H1 => tb σ H1 (tOp_k1 r Q x)
noncomputable def tOp (r : R2) (ta tb : TE) : TE := fun σ H Q => ta σ H (tOp_k2 r tb σ Q)
noncomputable def tUn_k1 (r : V → Hp → VK → Prop) (Q : VK) : V → Hp → Prop := fun x H1 => r x H1 Q
noncomputable def tUn (r : V → Hp → VK → Prop) (ta : TE) : TE := fun σ H Q => ta σ H (tUn_k1 r Q)
inductive rI (C : Int → Int → Prop) (g : Int → Int → V) (x : V) (y : V) (H : Hp) (Q : VK) : Prop
  | mk : ∀ i j, (x = .int i) → (y = .int j) → (C i j) → (Q (g i j) H) → rI C g x y H Q
inductive rI0 (g : Int → Int → V) (x : V) (y : V) (H : Hp) (Q : VK) : Prop
  | mk : ∀ i j, (x = .int i) → (y = .int j) → (Q (g i j) H) → rI0 g x y H Q
inductive rU (g : Int → V) (x : V) (H : Hp) (Q : VK) : Prop
  | mk : ∀ i, (x = .int i) → (Q (g i) H) → rU g x H Q

section
variable {X : Cx} {a b c : Expr} {ta tb tc : TE} {pos : Pos}

theorem binT (ha : PE X a ta) (hb : PE X b tb) {pins : List (Addr × Obj)} {s : Shared} {σ : St} {H : Hp} {R : V → V → Hp → Prop} (I : Inv X pins σ H s)
    (h : ta σ H fun x H1 => tb σ H1 fun y H2 => R x y H2) {Q : Value → Shared → Prop} {f : Value → Value → Sem Value}
    (hf : ∀ v u s2 x y H2, Inv X pins σ H2 s2 → RelV x v → RelV y u → R x y H2 → wpAny (model X.prog X.w) X.A (f v u) Q X.xe s2) :
    wpAny (model X.prog X.w) X.A (eval a X.env) (fun v s₁ => wpAny (model X.prog X.w) X.A (eval b X.env) (fun u s₂ => wpAny (model X.prog X.w) X.A (f v u) Q X.xe s₂) X.xe s₁) X.xe s := by
  refine thn (ha pins s σ H _ I h) fun v s1 zq42 => ?_
  obtain ⟨x, H1, I1, r1, q1⟩ := zq42
  refine thn (hb pins s1 σ H1 _ I1 q1) fun u s2 zq43 => ?_
  obtain ⟨y, H2, I2, r2, q2⟩ := zq43
  exact hf v u s2 x y H2 I2 r1 r2 q2

theorem pe_op {op : Operator} {r : R2} (ho : OpR X (binaryOp op) r) (ha : PE X a ta) (hb : PE X b tb) : PE X (.BinOp a op b pos) (tOp r ta tb) := by
  intro pins s σ H Q I h
  exact wpAny_BinOp (binT ha hb I h fun v u s2 x y H2 I2 rx ry q => ho pins s2 σ H2 x y v u Q I2 rx ry q)
theorem pe_un {op : UnaryOp} {r : V → Hp → VK → Prop} (ho : UnR X (unaryOp op) r) (ha : PE X a ta) : PE X (.UnaryOp op a pos) (tUn r ta) := by
  intro pins s σ H Q I h
  exact UnaryOp_ (thn (ha pins s σ H _ I h) fun v s1 zq44 => (by obtain ⟨x, H1, I1, r1, q1⟩ := zq44; exact ho pins s1 σ H1 x v Q I1 r1 q1))

theorem opI {f : Value → Value → Sem Value} {C : Int → Int → Prop} {g : Int → Int → Int}
    (rule : ∀ (i j : Int) (t u : Tok) (s : Shared) (Q : Value → Shared → Prop) (E : Value → Shared → Prop), C i j → Q (.int (g i j) s.toks) { s with toks := s.toks + 1 } → wpAny (model X.prog X.w) X.A (f (.int i t) (.int j u)) Q E s) :
    OpR X f (rI C fun i j => .int (g i j)) := by
  intro pins s σ H x y v u Q I rx ry h
  obtain ⟨i, j, rfl, rfl, hc, q⟩ := h
  obtain ⟨t, rfl⟩ := rx
  obtain ⟨t', rfl⟩ := ry
  exact rule i j t t' s _ _ hc ⟨.int (g i j), H, I.tok _, ⟨_, rfl⟩, q⟩
theorem opI0 {f : Value → Value → Sem Value} {g : Int → Int → Int}
    (rule : ∀ (i j : Int) (t u : Tok) (s : Shared) (Q : Value → Shared → Prop) (E : Value → Shared → Prop), Q (.int (g i j) s.toks) { s with toks := s.toks + 1 } → wpAny (model X.prog X.w) X.A (f (.int i t) (.int j u)) Q E s) :
    OpR X f (rI0 fun i j => .int (g i j)) := by
  intro pins s σ H x y v u Q I rx ry h
  obtain ⟨i, j, rfl, rfl, q⟩ := h
  obtain ⟨t, rfl⟩ := rx
  obtain ⟨t', rfl⟩ := ry
  exact rule i j t t' s _ _ ⟨.int (g i j), H, I.tok _, ⟨_, rfl⟩, q⟩
theorem opB0 {f : Value → Value → Sem Value} {g : Int → Int → Bool}
    (rule : ∀ (i j : Int) (t u : Tok) (s : Shared) (Q : Value → Shared → Prop) (E : Value → Shared → Prop), Q (.bool (g i j)) s → wpAny (model X.prog X.w) X.A (f (.int i t) (.int j u)) Q E s) :
    OpR X f (rI0 fun i j => .bl (g i j)) := by
  intro pins s σ H x y v u Q I rx ry h
  obtain ⟨i, j, rfl, rfl, q⟩ := h
  obtain ⟨t, rfl⟩ := rx
  obtain ⟨t', rfl⟩ := ry
  exact rule i j t t' s _ _ ⟨.bl (g i j), H, I, rfl, q⟩

noncomputable def CDiv (i j : Int) : Prop := 0 < j ∧ j < 1073741824
noncomputable def CPow (i j : Int) : Prop := 0 ≤ j ∧ j ≤ 1000000 ∧ i.natAbs < 2 ^ 64
noncomputable def CMul (i j : Int) : Prop := (-(2 ^ 64) < i ∧ i < 2 ^ 64) ∨ (-(2 ^ 64) < j ∧ j < 2 ^ 64)
theorem CMul.ok {i j : Int} (h : CMul i j) : IntMulOk i j := by
  rcases h with ⟨h1, h2⟩ | ⟨h1, h2⟩
  · exact .of_left (intBits_le_64 h1 h2)
  · exact .of_right (intBits_le_64 h1 h2)

theorem op_add : OpR X (binaryOp .Add) (rI0 fun i j => .int (i + j)) := opI0 fun _ _ _ _ _ _ _ q => add_int q
theorem op_sub : OpR X (binaryOp .Sub) (rI0 fun i j => .int (i - j)) := opI0 fun _ _ _ _ _ _ _ q => sub_int q
theorem op_mul : OpR X (binaryOp .Mult) (rI CMul fun i j => .int (i * j)) := opI fun _ _ _ _ _ _ _ hc q => mul_int q hc.ok
theorem op_fdiv : OpR X (binaryOp .FloorDiv) (rI CDiv fun i j => .int (i / j)) := opI fun i j _ _ _ _ _ hc q => by
  have h1 : (0 : Int) < j := hc.1
  have h2 : j < 1073741824 := hc.2
  exact floordiv_int (by omega) (by rw [Int.fdiv_eq_ediv_of_nonneg i (by omega)]; exact q) (.inl (PyProof.noPylong_small (by omega)))
theorem op_mod : OpR X (binaryOp .Mod) (rI (fun _ j => 0 < j) fun i j => .int (i % j)) := opI fun i j _ _ _ _ _ hc q => by
  have h1 : (0 : Int) < j := hc
  exact mod_int' (by omega) (by rw [Int.fmod_eq_emod_of_nonneg i (by omega)]; exact q)
theorem op_pow : OpR X (binaryOp .Pow) (rI CPow fun i j => .int (i ^ j.toNat)) := opI fun _ _ _ _ _ _ _ hc q => pow_int_small hc.1 hc.2.1 hc.2.2 q


theorem unI {f : Value → Sem Value} {g : Int → Int}
    (rule : ∀ (i : Int) (t : Tok) (s : Shared) (Q : Value → Shared → Prop) (E : Value → Shared → Prop), Q (.int (g i) s.toks) { s with toks := s.toks + 1 } → wpAny (model X.prog X.w) X.A (f (.int i t)) Q E s) :
    UnR X f (rU fun i => .int (g i)) := by
  intro pins s σ H x v Q I rx h
  obtain ⟨i, rfl, q⟩ := h
  obtain ⟨t, rfl⟩ := rx
  exact rule i t s _ _ ⟨.int (g i), H, I.tok _, ⟨_, rfl⟩, q⟩
theorem un_neg : UnR X (unaryOp .USub) (rU fun i => .int (-i)) := unI fun _ _ _ _ _ q => neg_int q

end

noncomputable def scal : V → V → Bool
  | .non, .non => true | .non, .int _ => true | .int _, .non => true | .non, .bl _ => true | .bl _, .non => true | .non, .str _ => true | .str _, .non => true
  | .int _, .int _ => true | .bl _, .bl _ => true | .str _, .str _ => true | .byt _, .byt _ => true
  | .int _, .str _ => true | .str _, .int _ => true | .bl _, .str _ => true | .str _, .bl _ => true
  | _, _ => false
noncomputable def rEq : R2 := fun x y H Q => scal x y = true ∧ Q (.bl (decide (x = y))) H
noncomputable def rNe : R2 := fun x y H Q => scal x y = true ∧ Q (.bl (!decide (x = y))) H

theorem dec_int {i j : Int} : decide (V.int i = V.int j) = (i == j) := by
  rw [Bool.eq_iff_iff]
  simp
theorem dec_bl {i j : Bool} : decide (V.bl i = V.bl j) = (i == j) := by
  rw [Bool.eq_iff_iff]
  simp
theorem dec_str {i j : Str} : decide (V.str i = V.str j) = (i == j) := by
  rw [Bool.eq_iff_iff]
  simp
theorem dec_byt {i j : Array UInt8} : decide (V.byt i = V.byt j) = (i.toList == j.toList) := by
  rw [Bool.eq_iff_iff]
  cases i
  cases j
  simp

section
variable {X : Cx} {a b c : Expr} {ta tb tc : TE} {pos : Pos}
theorem fin_bl {pins : List (Addr × Obj)} {σ : St} {H : Hp} {s : Shared} {Q : VK} {k k' : Bool} (I : Inv X pins σ H s) (q : Q (.bl k) H) (e : k = k') : EP X pins σ Q (.bool k') s := by
  subst e
  exact ⟨.bl k, H, I, rfl, q⟩
theorem op_eq : OpR X (compareOp .Eq) rEq := by
  intro pins s σ H x y v u Q I rx ry h
  obtain ⟨hs, q⟩ := h
  cases x with
  | non =>
    cases rx
    cases y with
    | non => cases ry; exact PySem.EqNone.eq_none_none (fin_bl I q (by simp))
    | bl j => cases ry; exact PySem.EqNone.eq_none_bool (fin_bl I q (by simp))
    | int j => obtain ⟨t', rfl⟩ := ry; exact PySem.EqNone.eq_none_int (fin_bl I q (by simp))
    | str j => obtain ⟨t', rfl⟩ := ry; exact PySem.EqNone.eq_none_str (fin_bl I q (by simp))
    | _ => exact absurd (show false = true from hs) Bool.false_ne_true
  | bl i =>
    cases rx
    cases y with
    | non => cases ry; exact PySem.EqNone.eq_bool_none (fin_bl I q (by simp))
    | bl j => cases ry; exact eq_bool (fin_bl I q dec_bl)
    | str j => obtain ⟨t', rfl⟩ := ry; exact PySem.EqMixed.eq_bool_str (fin_bl I q (by simp))
    | _ => exact absurd (show false = true from hs) Bool.false_ne_true
  | int i =>
    obtain ⟨t, rfl⟩ := rx
    cases y with
    | non => cases ry; exact PySem.EqNone.eq_int_none (fin_bl I q (by simp))
    | int j => obtain ⟨t', rfl⟩ := ry; exact eq_int (fin_bl I q dec_int)
    | str j => obtain ⟨t', rfl⟩ := ry; exact PySem.EqMixed.eq_int_str (fin_bl I q (by simp))
    | _ => exact absurd (show false = true from hs) Bool.false_ne_true
  | str i =>
    obtain ⟨t, rfl⟩ := rx
    cases y with
    | non => cases ry; exact PySem.EqNone.eq_str_none (fin_bl I q (by simp))
    | bl j => cases ry; exact PySem.EqMixed.eq_str_bool (fin_bl I q (by simp))
    | int j => obtain ⟨t', rfl⟩ := ry; exact PySem.EqMixed.eq_str_int (fin_bl I q (by simp))
    | str j => obtain ⟨t', rfl⟩ := ry; exact eq_str (fin_bl I q dec_str)
    | _ => exact absurd (show false = true from hs) Bool.false_ne_true
  | byt i =>
    obtain ⟨t, rfl⟩ := rx
    cases y with
    | byt j => obtain ⟨t', rfl⟩ := ry; exact PySem.W.eq_bytes (fin_bl I q dec_byt)
    | _ => exact absurd (show false = true from hs) Bool.false_ne_true
  | _ => cases y <;> exact absurd (show false = true from hs) Bool.false_ne_true
theorem op_ne : OpR X (compareOp .NotEq) rNe := by
  intro pins s σ H x y v u Q I rx ry h
  obtain ⟨hs, q⟩ := h
  cases x with
  | non =>
    cases rx
    cases y with
    | non => cases ry; exact PySem.EqNone.ne_none_none (fin_bl I q (by simp))
    | bl j => cases ry; exact PySem.EqNone.ne_none_bool (fin_bl I q (by simp))
    | int j => obtain ⟨t', rfl⟩ := ry; exact PySem.EqNone.ne_none_int (fin_bl I q (by simp))
    | str j => obtain ⟨t', rfl⟩ := ry; exact PySem.EqNone.ne_none_str (fin_bl I q (by simp))
    | _ => exact absurd (show false = true from hs) Bool.false_ne_true
  | bl i =>
    cases rx
    cases y with
    | non => cases ry; exact PySem.EqNone.ne_bool_none (fin_bl I q (by simp))
    | bl j => cases ry; exact ne_bool (fin_bl I q (congrArg not dec_bl))
    | str j => obtain ⟨t', rfl⟩ := ry; exact PySem.EqMixed.ne_bool_str (fin_bl I q (by simp))
    | _ => exact absurd (show false = true from hs) Bool.false_ne_true
  | int i =>
    obtain ⟨t, rfl⟩ := rx
    cases y with
    | non => cases ry; exact PySem.EqNone.ne_int_none (fin_bl I q (by simp))
    | int j => obtain ⟨t', rfl⟩ := ry; exact ne_int (fin_bl I q (congrArg not dec_int))
    | str j => obtain ⟨t', rfl⟩ := ry; exact PySem.EqMixed.ne_int_str (fin_bl I q (by simp))
    | _ => exact absurd (show false = true from hs) Bool.false_ne_true
  | str i =>
    obtain ⟨t, rfl⟩ := rx
    cases y with
    | non => cases ry; exact PySem.EqNone.ne_str_none (fin_bl I q (by simp))
    | bl j => cases ry; exact PySem.EqMixed.ne_str_bool (fin_bl I q (by simp))
    | int j => obtain ⟨t', rfl⟩ := ry; exact PySem.EqMixed.ne_str_int (fin_bl I q (by simp))
    | str j => obtain ⟨t', rfl⟩ := ry; exact ne_str (fin_bl I q (congrArg not dec_str))
    | _ => exact absurd (show false = true from hs) Bool.false_ne_true
  | byt i =>
    obtain ⟨t, rfl⟩ := rx
    cases y with
    | byt j => obtain ⟨t', rfl⟩ := ry; exact PySem.W.ne_bytes (fin_bl I q (congrArg not dec_byt))
    | _ => exact absurd (show false = true from hs) Bool.false_ne_true
  | _ => cases y <;> exact absurd (show false = true from hs) Bool.false_ne_true

theorem op_lt : OpR X (compareOp .Lt) (rI0 fun i j => .bl (decide (i < j))) := opB0 fun _ _ _ _ _ _ _ q => lt_int q
theorem op_le : OpR X (compareOp .LtE) (rI0 fun i j => .bl (decide (i ≤ j))) := opB0 fun _ _ _ _ _ _ _ q => le_int q




theorem nomark (b : Expr) {op : CmpOp} (h : op ≠ .In := by decide) (h2 : op ≠ .NotIn := by decide) : behindInMarks op b = false := by
  have e1 : (op == CmpOp.In) = false := by cases op <;> first | rfl | exact absurd rfl h
  have e2 : (op == CmpOp.NotIn) = false := by cases op <;> first | rfl | exact absurd rfl h2
  cases b <;> simp [behindInMarks, e1, e2]
theorem pe_cmpR {op : CmpOp} {r : R2} (ho : OpR X (compareOp op) r) (ha : PE X a ta) (hb : PE X b tb) (hm : behindInMarks op b = false) : PE X (.Compare a [op] [b] pos) (tOp r ta tb) := by
  intro pins s σ H Q I h
  exact wpAny_Compare1 (binT ha hb I h fun v u s2 x y H2 I2 rx ry q => ho pins s2 σ H2 x y v u Q I2 rx ry q) hm
noncomputable def tTest_k1 (Q : (Bool → Hp → Prop)) : V → Hp → Prop := fun x H' => IsB x H' Q
noncomputable def tTest (t : TE) : TT := fun σ H Q => t σ H (tTest_k1 Q)
theorem pt_cmpR {op : CmpOp} {r : R2} (ho : OpR X (compareOp op) r) (ha : PE X a ta) (hb : PE X b tb) (hm : behindInMarks op b = false) : PT X (.Compare a [op] [b] pos) (tTest (tOp r ta tb)) := by
  intro pins s σ H Q I h
  refine wpAny_isTrue_Compare1 (thn (ha pins s σ H _ I h) fun v s1 ⟨x, H1, I1, r1, q1⟩ => thn (hb pins s1 σ H1 _ I1 q1) fun u s2 ⟨y, H2, I2, r2, q2⟩ =>
    thn (ho pins s2 σ H2 x y v u _ I2 r1 r2 q2) fun c s3 ⟨z, H3, I3, r3, k, e, q3⟩ => ?_) hm
  subst e
  cases r3
  exact wpAny_truthy_bool ⟨H3, I3, q3⟩
noncomputable def tChain (r r' : R2) (ta tb tc : TE) : TE := fun σ H Q => ta σ H fun x H1 => tb σ H1 fun y H2 => r x y H2 fun z H3 => ∃ k, z = .bl k ∧
  (if k = true then tc σ H3 fun w' H4 => r' y w' H4 Q else Q (.bl false) H3)
theorem pt_chain {op op' : CmpOp} {r r' : R2} (ho : OpR X (compareOp op) r) (ho' : OpR X (compareOp op') r') (ha : PE X a ta) (hb : PE X b tb) (hc : PE X c tc)
    (hm : lastMarks [op, op'] [b, c] = false := by with_unfolding_all rfl) : PT X (.Compare a [op, op'] [b, c] pos) (tTest (tChain r r' ta tb tc)) := by
  intro pins s σ H Q I h
  refine isTrue_chain (thn (ha pins s σ H _ I h) fun v s1 ⟨x, H1, I1, r1, q1⟩ => test_link (thn (hb pins s1 σ H1 _ I1 q1) fun u s2 ⟨y, H2, I2, r2, q2⟩ =>
    thn (ho pins s2 σ H2 x y v u _ I2 r1 r2 q2) fun d s3 ⟨z, H3, I3, r3, k, e, q3⟩ => ?_)) hm
  subst e
  cases r3
  refine wpAny_truthy_bool ?_
  cases k with
  | false =>
    obtain ⟨k', e', q'⟩ := q3
    cases e'
    exact ite_ff ⟨H3, I3, q'⟩
  | true =>
    refine ite_tt (test_last (thn (hc pins s3 σ H3 _ I3 q3) fun w' s4 ⟨z', H4, I4, r4, q4⟩ => thn (ho' pins s4 σ H4 y z' u w' _ I4 r2 r4 q4) fun d' s5 zq46 => ?_))
    obtain ⟨z2, H5, I5, r5, k2, e2, q5⟩ := zq46
    subst e2
    cases r5
    exact wpAny_truthy_bool ⟨H5, I5, q5⟩

noncomputable def TruV (K : PySem.W.Frag) (x : V) (H : Hp) (k : Bool) : Prop :=
  match x with
  | .non => k = false
  | .bl b => k = b
  | .int i => k = (i != 0)
  | .str y => y.length ≤ sizeLine ∧ k = ((y.length : Int) != 0)
  | .byt y => y.size ≤ sizeLine ∧ k = ((y.size : Int) != 0)
  | .ref p => (∃ xs, SqL K H p xs ∧ k = !xs.isEmpty) ∨ (∃ xs, SqT K H p xs ∧ k = !xs.isEmpty) ∨ ∃ kvs, H p = some (.dK kvs) ∧ k = !kvs.isEmpty
  | _ => False
theorem isEmpty_kv {κ : Type} {kvs : List (κ × V)} {vs : List (κ × Value)} (r : KV kvs vs) : (!vs.isEmpty) = !kvs.isEmpty := by
  cases r <;> rfl
theorem isEmpty_of {xs : List V} {its : List Value} (r : Vals xs its) : (!its.toArray.isEmpty) = !xs.isEmpty := by
  cases r <;> simp
theorem line63 : (sizeLine : Nat) < 2 ^ 63 := by rw [sizeLine_eq]; decide
inductive tru_r (K : PySem.W.Frag) (x : V) (H : Hp) (Q : Bool → Hp → Prop) : Prop
  | mk : ∀ k, (TruV K x H k) → (Q k H) → tru_r K x H Q
theorem tru_ok : TruR X (tru_r X.K) := by
  intro pins s σ H x v Q I rx h
  obtain ⟨k, e, q⟩ := h
  have hl := line63
  have hs : sizeLine = 16777216 := sizeLine_eq
  cases x with
  | non =>
    cases rx
    have e' : k = false := e
    subst e'
    exact truthy_none ⟨H, I, q⟩
  | bl b =>
    cases rx
    have e' : k = b := e
    subst e'
    exact wpAny_truthy_bool ⟨H, I, q⟩
  | int i =>
    obtain ⟨t, rfl⟩ := rx
    have e' : k = (i != 0) := e
    subst e'
    exact PySem.P.truthy_int ⟨H, I, q⟩
  | str y =>
    obtain ⟨t, rfl⟩ := rx
    obtain ⟨hy, e'⟩ : y.length ≤ sizeLine ∧ k = ((y.length : Int) != 0) := e
    subst e'
    exact PySem.P.truthy_str (by omega) ⟨H, I.tok _, q⟩
  | byt y =>
    obtain ⟨t, rfl⟩ := rx
    obtain ⟨hy, e'⟩ : y.size ≤ sizeLine ∧ k = ((y.size : Int) != 0) := e
    subst e'
    exact PySem.W.truthy_bytes (by omega) ⟨H, I.tok _, q⟩
  | ref p =>
    cases rx
    have e' : (∃ xs, SqL X.K H p xs ∧ k = !xs.isEmpty) ∨ (∃ xs, SqT X.K H p xs ∧ k = !xs.isEmpty) ∨ ∃ kvs, H p = some (.dK kvs) ∧ k = !kvs.isEmpty := e
    rcases e' with ⟨xs, hx, e'⟩ | ⟨xs, hx, e'⟩ | ⟨kvs, hx, e'⟩
    · subst e'
      obtain ⟨its, r, pl, hz⟩ := I.list hx
      have hlen := r.length
      exact wpAny_truthy_list pl.isList (by simp only [List.size_toArray]; omega) ⟨H, I.tok _, by rw [isEmpty_of r]; exact q⟩
    · subst e'
      obtain ⟨its, r, pl, hz⟩ := I.tuple hx
      have hlen := r.length
      exact truthy_tuple pl (by simp only [List.size_toArray]; omega) ⟨H, I.tok _, by rw [isEmpty_of r]; exact q⟩
    · subst e'
      obtain ⟨hz, hS, vs, r, m⟩ : kvs.length ≤ sizeLine ∧ (p == sysModules) = false ∧ ∃ vs, KV kvs vs ∧ s.heap.DictOf (mixKind X.prog X.w) p vs := I.hok p _ hx
      have hlen : kvs.length = vs.length := Paired.length r
      exact wpAny_truthy_dict hS m (by omega) ⟨H, I.tok _, by rw [isEmpty_kv r]; exact q⟩
  | _ => exact (show False from e).elim
noncomputable def tTru_k1 (K : PySem.W.Frag) (Q : (Bool → Hp → Prop)) : V → Hp → Prop := fun x H' => tru_r K x H' Q
noncomputable def tTru (K : PySem.W.Frag) (ta : TE) : TT := fun σ H Q => ta σ H (tTru_k1 K Q)
theorem pt_truth (ha : PE X a ta) (he : ∀ whole, isTrue a X.env whole = (do let v ← whole; standAt a.pos; holding [v] (truthy v))) :
    PT X a (tTru X.K ta) := by
  intro pins s σ H Q I h
  exact isTrue_plain (thn (ha pins s σ H _ I h) fun v s1 zq47 => (by obtain ⟨x, H1, I1, r1, q1⟩ := zq47; exact tru_ok pins s1 σ H1 x v Q I1 r1 q1)) (he _)

inductive op_add_str_r  (x : V) (y : V) (H : Hp) (Q : VK) : Prop
  | mk : ∀ i j, (x = .str i) → (y = .str j) → (i.length + j.length ≤ sizeLine) → (Q (.str (i ++ j)) H) → op_add_str_r x y H Q
theorem op_add_str : OpR X (binaryOp .Add) op_add_str_r := by
  intro pins s σ H x y v u Q I rx ry h
  obtain ⟨i, j, rfl, rfl, hz, q⟩ := h
  obtain ⟨t, rfl⟩ := rx
  obtain ⟨t', rfl⟩ := ry
  exact add_str (fun t' tk => ⟨.str (i ++ j), H, I.tok _, ⟨_, rfl⟩, q⟩) hz


theorem vals1 {x : V} {us : List Value} (r : Vals [x] us) : ∃ u, us = [u] ∧ RelV x u := by
  cases r with
  | cons r1 r2 => cases r2; exact ⟨_, rfl, r1⟩
theorem vals2 {x y : V} {us : List Value} (r : Vals [x, y] us) : ∃ u w', us = [u, w'] ∧ RelV x u ∧ RelV y w' := by
  cases r with
  | cons r1 r2 =>
    cases r2 with
    | cons r3 r4 => cases r4; exact ⟨_, _, rfl, r1, r3⟩
theorem call_int1 : CallR X (.type "int") (fun xs H Q => (∃ i, xs = [.int i] ∧ Q (.int i) H) ∨ ∃ k, xs = [.bl k] ∧ Q (.int (if k then 1 else 0)) H) := by
  intro pins s σ H xs us Q I r h
  rcases h with ⟨i, rfl, q⟩ | ⟨k, rfl, q⟩
  · obtain ⟨u, rfl, t, rfl⟩ := vals1 r
    exact call_int_int ⟨.int i, H, I, ⟨_, rfl⟩, q⟩
  · obtain ⟨u, rfl, r1⟩ := vals1 r
    cases r1
    exact call_int_bool ⟨.int (if k then 1 else 0), H, I.tok _, ⟨_, rfl⟩, q⟩
end
end L2

namespace L2
open PySem PySem.Spec PyProof.Rows

structure ObjM (h : Heap) (x dx C : Addr) (mA : Str → Option Value) : Prop where
  obj : h.get? x = some (PySem.W.instObj C dx)
  ns : h.Ns1 dx mA
  ne : dx ≠ x

theorem lookIn_ns {h : Heap} {dx : Addr} {mA : Str → Option Value} (n : h.Ns1 dx mA) : ∃ od, h.get? dx = some od ∧ ∀ name, PySem.W.lookIn name od = some (mA name) := by
  obtain ⟨o, es, ep, ho, hd, hk, _, hm⟩ := n
  refine ⟨o, ho, fun name => ?_⟩
  have e := hm name
  unfold nsFind findBy at e
  rw [← Array.find?_toList] at e
  unfold PySem.W.lookIn
  rw [hd]
  dsimp only
  split
  · rename_i y q
    rw [q] at e
    exact congrArg some e
  · rename_i q
    rw [q] at e
    have a : es.toList.any (·.refKey) = false := by
      rw [List.any_eq_false]
      intro y hy
      obtain ⟨z, t, hkey⟩ := hk y (Array.mem_toList_iff.mp hy)
      simp [DictEntry.refKey, hkey]
    have a' : ¬ es.toList.any (·.refKey) = true := by rw [a]; exact Bool.false_ne_true
    rw [if_neg a']
    exact congrArg some e

theorem ObjM.look {h : Heap} {x dx C : Addr} {mA : Str → Option Value} (I : ObjM h x dx C mA) : ∃ od, PySem.W.InstAt h x (PySem.W.instObj C dx) C (some od) ∧ ∀ name, PySem.W.lookIn name od = some (mA name) :=
  let ⟨od, ho, hl⟩ := lookIn_ns I.ns
  ⟨od, ⟨I.obj, rfl, rfl, ho⟩, hl⟩

section
variable {prog : Program} {w : World} {A : Around} {E : Value → Shared → Prop} {s : Shared} {K : PySem.W.Frag} {x dx C f : Addr} {mA : Str → Option Value} {name : Str} {v : Value}





end

noncomputable def putF (f : Str) (v : V) : List (Str × V) → List (Str × V)
  | [] => [(f, v)]
  | (g, x) :: r => if g = f then (g, v) :: r else (g, x) :: putF f v r

theorem RelO.some_of {v : V} {o : Option Value} (r : RelO (some v) o) : ∃ u, o = some u ∧ RelV v u := by
  cases o with
  | none => exact (show False from r).elim
  | some u => exact ⟨u, rfl, r⟩
theorem handed_of {v : V} {u : Value} (r : RelV v u) : PySem.W.handedIn u = true := by
  cases v with
  | tks x t => cases (show u = Value.str x t from r); rfl
  | non => cases (show u = Value.none from r); rfl
  | bl b => cases (show u = Value.bool b from r); rfl
  | int i => obtain ⟨t, e⟩ := (show ∃ t, u = Value.int i t from r); cases e; rfl
  | str x => obtain ⟨t, e⟩ := (show ∃ t, u = Value.str x t from r); cases e; rfl
  | byt b => obtain ⟨t, e⟩ := (show ∃ t, u = Value.bytes b t from r); cases e; rfl
  | flt b => obtain ⟨t, e⟩ := (show ∃ t, u = Value.float b t from r); cases e; rfl
  | ref a => cases (show u = Value.ref a from r); rfl
  | ty n => cases (show u = Value.type n from r); rfl

section
variable {P : Program} {w : World} {H H' : Hp} {h h' : Heap} {a C dx : Addr} {fs fs' : List (Str × V)}
theorem ins_get (hok : HOk P w H h) (e : H a = some (.ins C dx fs)) : ∃ mA, ObjM h a dx C mA ∧ (∀ f, RelO (fs.lookup f) (mA f)) ∧ PySem.Within mA (fs.map (·.1)) ∧ fs.length ≤ 1000 ∧ H dx = some (.own a) := by
  obtain ⟨d, z, ne, ob, mA, n, r, q⟩ := (show ObjOk P w H h a (.ins C dx fs) from hok a _ e)
  exact ⟨mA, ⟨ob, n, ne⟩, r, q, z, d⟩
end

structure Cls (K : PySem.W.Frag) (C : Addr) : Prop where
  pg : PySem.W.plainGet K C Str.empty = true
  hd : PySem.W.hasDictIn K C = true
  po : PySem.W.plainOver K C = true
  sa : PySem.W.findIn K (.ref C) "__setattr__" = some (some (.builtin "object.__setattr__"))
theorem Cls.get {K : PySem.W.Frag} {C : Addr} (c : Cls K C) (f : Str) : PySem.W.plainGet K C f = true := c.pg

section
variable {X : Cx} {pins : List (Addr × Obj)} {σ : St} {H : Hp} {s : Shared} {a C dx : Addr} {fs : List (Str × V)} {f : Str} {v : V} {A : Around} {E : Value → Shared → Prop}






theorem attr_of {prog : Program} {w : World} {env : Env} {e : Expr} {f : Str} {pos : Pos} {s : Shared} {Q : Value → Shared → Prop} (hb : attributeBase e f env (eval e env) = eval e env)
    (h : wpAny (model prog w) A (eval e env) (fun o s₁ => wpAny (model prog w) A (getAttr o f true) Q E s₁) E s) : wpAny (model prog w) A (eval (.Attribute e f pos) env) Q E s :=
  Attribute_any_ h (by rw [arm_eval_Attribute, hb])
end


section
variable {X : Cx} {o e value : Expr} {f : Str} {pos pos' tpos : Pos} {ta tv : TE}

end

section
variable {X : Cx} {pins : List (Addr × Obj)} {σ : St} {H : Hp} {s : Shared} {A : Around} {E : Value → Shared → Prop} {Q : Value → Shared → Prop} {c : Value} {b : Bool}
inductive TyOf (K : PySem.W.Frag) (H : Hp) : V → Value → Prop where
  | non : TyOf K H .non (.type "NoneType")
  | bl (x : Bool) : TyOf K H (.bl x) (.type "bool")
  | int (i : Int) : TyOf K H (.int i) (.type "int")
  | str (x : Str) : TyOf K H (.str x) (.type "str")
  | flt (x : UInt64) : TyOf K H (.flt x) (.type "float")
  | lst {a : Addr} {xs : List V} (e : H a = some (.lst xs)) : TyOf K H (.ref a) (.type "list")
  | frz {a : Addr} {o : Obj} {xs : List V} (e : H a = some (.frz o (.lst xs))) : TyOf K H (.ref a) (.type "list")
  | tup {a : Addr} {xs : List V} (e : H a = some (.tup xs)) : TyOf K H (.ref a) (.type "tuple")
  | dK {a : Addr} {kvs : List (Key × V)} (e : H a = some (.dK kvs)) : TyOf K H (.ref a) (.type "dict")
  | dT {a : Addr} {kvs : List (List Key × V)} (e : H a = some (.dT kvs)) : TyOf K H (.ref a) (.type "dict")
  | ins {a C dx : Addr} {fs : List (Str × V)} (e : H a = some (.ins C dx fs)) (cl : Cls K C) (ha : PySem.W.findIn K (.ref C) "__class__" = some (some (.builtin "object.__class__")))
      (hn : PySem.W.specialIn K (.builtin "object.__class__") "__get__" = some (some (.builtin "getset_descriptor.__get__"))) (htk : PySem.W.takesIn K (.builtin "object.__class__") = some true)
      (hm : PySem.W.mroIn K C (.type "object") = some true) : TyOf K H (.ref a) (.ref C)
theorem isinst_ok {x : V} {u t : Value} (I : Inv X pins σ H s) (rx : RelV x u) (ty : TyOf X.K H x t) (e : PySem.W.kitOne X.K t c = some b) (h : ∀ tk, Q (.bool b) { s with toks := tk }) :
    wpAny (model X.prog X.w) A (call (.builtin "isinstance") [u, c]) Q E s := by
  cases ty with
  | non => cases (show u = Value.none from rx); exact PySem.W.kia_one PySem.W.kitx_none I.kIn True.intro e (fun z => nomatch z) h
  | bl y => cases (show u = Value.bool y from rx); exact PySem.W.kia_one PySem.W.kitx_bool I.kIn True.intro e (fun z => nomatch z) h
  | int i => obtain ⟨t, q⟩ := (show ∃ t, u = Value.int i t from rx); cases q; exact PySem.W.kia_one PySem.W.kitx_int I.kIn True.intro e (fun z => nomatch z) h
  | str y => obtain ⟨t, q⟩ := (show ∃ t, u = Value.str y t from rx); cases q; exact PySem.W.kia_one PySem.W.kitx_str I.kIn True.intro e (fun z => nomatch z) h
  | flt y => obtain ⟨t, q⟩ := (show ∃ t, u = Value.float y t from rx); cases q; exact PySem.W.kia_one PySem.W.kitx_float I.kIn True.intro e (fun z => nomatch z) h
  | @lst a xs ea =>
    cases (show u = Value.ref a from rx)
    obtain ⟨_, _, n, _, h1⟩ := (show ObjOk X.prog X.w H s.heap a (.lst xs) from I.hok a _ ea)
    exact PySem.W.kia_one PySem.W.kitx_list I.kIn ⟨_, h1, rfl⟩ e (fun z => nomatch z) h
  | @frz a ob xs ea =>
    cases (show u = Value.ref a from rx)
    obtain ⟨_, _, _, n, _, h1⟩ := (show ObjOk X.prog X.w H s.heap a (.frz ob (.lst xs)) from I.hok a _ ea)
    exact PySem.W.kia_one PySem.W.kitx_list I.kIn ⟨_, h1, rfl⟩ e (fun z => nomatch z) h
  | @tup a xs ea =>
    cases (show u = Value.ref a from rx)
    obtain ⟨_, _, _, p, _⟩ := (show ObjOk X.prog X.w H s.heap a (.tup xs) from I.hok a _ ea)
    obtain ⟨o, h1, h2, _⟩ := p
    exact PySem.W.kia_one PySem.W.kitx_tuple I.kIn ⟨o, h1, h2⟩ e (fun z => nomatch z) h
  | @dK a kvs ea =>
    cases (show u = Value.ref a from rx)
    obtain ⟨_, _, vs, _, p⟩ := (show ObjOk X.prog X.w H s.heap a (.dK kvs) from I.hok a _ ea)
    obtain ⟨o, es, ep, h1, h2, _⟩ := p
    exact PySem.W.kia_one PySem.W.kitx_dict I.kIn ⟨o, h1, h2.1⟩ e (fun z => nomatch z) h
  | @dT a kvs ea =>
    cases (show u = Value.ref a from rx)
    obtain ⟨_, _, xs, _, o, es, ep, h1, h2, _⟩ := (show ObjOk X.prog X.w H s.heap a (.dT kvs) from I.hok a _ ea)
    exact PySem.W.kia_one PySem.W.kitx_dict I.kIn ⟨o, h1, h2.1⟩ e (fun z => nomatch z) h
  | @ins a C dx fs ea cl ha hn htk hm =>
    cases (show u = Value.ref a from rx)
    obtain ⟨mA, O, _⟩ := ins_get I.hok ea
    obtain ⟨od, J, _⟩ := O.look
    exact PySem.W.kia_one (PySem.W.kitx_own (cl.get _) cl.hd ha hn htk hm) I.kIn J e (fun z => nomatch z) h
end
end L2

namespace L2
open PySem PySem.Spec PyProof.Rows

structure Room (k : Nat) (A : Around) : Prop where
  hd : A.handled = none
  dp : A.depth + 3 * k + 5 < recursionLimit
  un : A.units + 16 * k + 200 < cLine
  gd : A.guards = some []
theorem Room.mono {j k : Nat} {A : Around} (r : Room k A) (h : j ≤ k) : Room j A := ⟨r.hd, by have := r.dp; omega, by have := r.un; omega, r.gd⟩
theorem Room.deeper {k : Nat} {A : Around} (r : Room (k + 1) A) (env : Env) : Room k (A.deeper env) :=
  ⟨r.hd, by have := r.dp; show A.depth + 1 + 3 * k + 5 < _; omega, by have := r.un; show A.units + 3 + 16 * k + 200 < _; omega, r.gd⟩
theorem make_depth {A : Around} {C : Addr} {us : List Value} {kw : List (Str × Value)} : (A.under (.builtin "type.__call__" ⟨.ref C :: us, kw⟩)).depth = A.depth + 1 := by
  first | rfl | simp [Around.under, Code.weight, Code.isCreation, Code.isGuard, Code.isCaller, Code.frames, Code.isFrame, guardIds]
theorem make_units {A : Around} {C : Addr} {us : List Value} {kw : List (Str × Value)} : (A.under (.builtin "type.__call__" ⟨.ref C :: us, kw⟩)).units = A.units + 1 := by
  first | rfl | simp [Around.under, Code.cUnits, Code.frames, Code.isFrame]
theorem Room.make {k : Nat} {A : Around} (r : Room (k + 1) A) (C : Addr) (us : List Value) (kw : List (Str × Value)) : Room k (A.under (.builtin "type.__call__" ⟨.ref C :: us, kw⟩)) :=
  ⟨r.hd, by have := r.dp; rw [make_depth]; omega, by have := r.un; rw [make_units]; omega, by have g := r.gd; simpa [Around.under, Code.guards, pushGuards, Code.isGuard, guardIds] using g⟩
theorem Room.depth {k : Nat} {A : Around} (r : Room k A) : A.depth < recursionLimit := by have := r.dp; omega
theorem Room.units {k : Nat} {A : Around} (r : Room k A) : A.units + 64 < cLine := by have := r.un; omega

noncomputable def tNil : TA := fun _ H Q => Q [] H
noncomputable def tCons_k1 (Q : (List V → Hp → Prop)) (x : V) : List V → Hp → Prop := fun xs H2 => Q (x :: xs) H2
noncomputable def tCons_k2 (tr : TA) (σ : St) (Q : (List V → Hp → Prop)) : V → Hp → Prop := fun x H1 => tr σ H1 (tCons_k1 Q x)
noncomputable def tCons (ta : TE) (tr : TA) : TA := fun σ H Q => ta σ H (tCons_k2 tr σ Q)
section
variable {X : Cx} {e : Expr} {es : List Expr} {te : TE} {t : TA} {pos : Pos}
theorem pa_nil : PA X [] tNil := fun _ _ _ _ H Q I h => Calls.spliced_nil ⟨[], H, I, .nil, h⟩
theorem pa_cons (ha : PE X e te) (hr : PA X es t) (hs : starEach (e :: es) X.env = (false, eval e X.env) :: starEach es X.env := by rfl) : PA X (e :: es) (tCons te t) := by
  intro pos pins s σ H Q I h
  rw [hs]
  show wpAny _ _ (spliced ((false, eval e X.env) :: backTo pos (starEach es X.env))) _ _ s
  refine Calls.spliced_cons (thn (ha pins s σ H _ I h) fun u s1 zq54 => ?_)
  obtain ⟨x, H1, I1, r1, q1⟩ := zq54
  exact thn (hr pos pins s1 σ H1 _ I1 q1) fun us s2 zq55 => (by obtain ⟨xs, H2, I2, r2, q2⟩ := zq55; exact ⟨x :: xs, H2, I2, .cons r1 r2, q2⟩)

noncomputable def tTup_k1 (Q : VK) : List V → Hp → Prop := fun xs H1 => xs.length ≤ sizeLine ∧ ∀ p, H1 p = none → Q (.ref p) (upd H1 p (.tup xs))
noncomputable def tTup (t : TA) : TE := fun σ H Q => t σ H (tTup_k1 Q)
noncomputable def tLst_k1 (Q : VK) : List V → Hp → Prop := fun xs H1 => xs.length ≤ sizeLine ∧ ∀ p, H1 p = none → Q (.ref p) (upd H1 p (.lst xs))
noncomputable def tLst (t : TA) : TE := fun σ H Q => t σ H (tLst_k1 Q)
theorem pe_tup {x1} (h : PA X es t) : PE X (.Tuple es x1 pos) (tTup t) := by
  intro pins s σ H Q I hq
  refine wpAny_Tuple_spliced (thn (h pos pins s σ H _ I hq) fun us s1 ⟨xs, H1, I1, r, z, q⟩ => ⟨by rw [← r.length]; exact z, ?_⟩)
  have hf : H1 s1.heap.objs.size = none := I1.hok.fresh (Nat.le_refl _)
  refine ⟨.ref s1.heap.objs.size, upd H1 s1.heap.objs.size (.tup xs), I1.laid (t' := s1.toks) (fun b u e => Heap.get?_push_of_some _ e) (Nat.le_refl _) ?_, rfl, q _ hf⟩
  exact ⟨z, us, r, ⟨_, Heap.get?_push_size _ rfl, rfl, _, rfl⟩, .new _ _ rfl⟩
theorem pe_lst (h : PA X es t) : PE X (.List es pos) (tLst t) := by
  intro pins s σ H Q I hq
  refine wpAny_List_spliced (thn (h pos pins s σ H _ I hq) fun us s1 ⟨xs, H1, I1, r, z, q⟩ => ⟨by rw [← r.length]; exact z, ?_⟩)
  have hf : H1 s1.heap.objs.size = none := I1.hok.fresh (Nat.le_refl _)
  refine ⟨.ref s1.heap.objs.size, upd H1 s1.heap.objs.size (.lst xs), I1.laid (t' := s1.toks) (fun b u e => Heap.get?_push_of_some _ e) (Nat.le_refl _) ?_, rfl, q _ hf⟩
  exact ⟨z, us, 0, r, Heap.get?_push_size _ rfl⟩
end

noncomputable abbrev Sp := List V → Hp → VK → XK → Prop
noncomputable abbrev CXT := List Env → Hp → Shared → XK → Value → Shared → Prop

structure Env0 (P : Program) (w : World) (K : PySem.W.Frag) (mg : Str → Option Value) (base : Heap) (A : Around) (outer : List Env) (s : Shared) (H : Hp) : Prop where
  frames : A.frames = some outer
  mod : Mod K mg base
  bs : ∀ b o, base.get? b = some o → s.heap.get? b = some o ∧ H b = none
  bsz : base.objs.size ≤ s.heap.objs.size
  funs : s.heap.FunFrames base outer
  frf : ∀ b ∈ frs outer, H b = none
  hok : HOk P w H s.heap
  bare : AllBare s.gens
noncomputable def CE (outer : List Env) (P : Program) (w : World) (H : Hp) (s : Shared) (Q : VK) (u : Value) (s' : Shared) : Prop :=
  ∃ v H', s'.os = s.os ∧ AllBare s'.gens ∧ Un (frs outer) [] H H' s.heap s'.heap ∧ HOk P w H' s'.heap ∧ RelV v u ∧ Q v H'
noncomputable def CR (CX : CXT) (outer : List Env) (P : Program) (w : World) (H : Hp) (s : Shared) (Q : VK) (E : XK) (r : Result) (s' : Shared) : Prop :=
  match r with
  | .ok (.ret u) => CE outer P w H s Q u s'
  | .ok _ => False
  | .error e => CX outer H s E e s'
structure FnOk (P : Program) (w : World) (K : PySem.W.Frag) (mg : Str → Option Value) (base : Heap) (CX : CXT) (k : Nat) (f : Addr) (fd : FuncData) (ps : List Str) (sp : Sp) : Prop where
  len : ∀ vs H Q E, sp vs H Q E → vs.length = ps.length
  run : ∀ (A : Around) (outer : List Env) (s : Shared) (H : Hp) (args : Args) (us : List Value) (vs : List V) (Q : VK) (E : XK), Room k A → Env0 P w K mg base A outer s H → BindsTo s fd args (ps.zip us) → Vals vs us → sp vs H Q E →
    codeAny (model P w) A (.call (.ref f) args) (CR CX outer P w H s Q E) s
theorem FnOk.mono {P : Program} {w : World} {K : PySem.W.Frag} {mg : Str → Option Value} {base : Heap} {CX : CXT} {j k : Nat} {f : Addr} {fd : FuncData} {ps : List Str} {sp : Sp} (F : FnOk P w K mg base CX j f fd ps sp) (h : j ≤ k) :
    FnOk P w K mg base CX k f fd ps sp := ⟨F.len, fun A outer s H args us vs Q E hr => F.run A outer s H args us vs Q E (hr.mono h)⟩

theorem Env0.make {P : Program} {w : World} {K : PySem.W.Frag} {mg : Str → Option Value} {base : Heap} {A : Around} {outer : List Env} {s : Shared} {H : Hp} (e : Env0 P w K mg base A outer s H) (C : Addr) (us : List Value) (kw : List (Str × Value)) :
    Env0 P w K mg base (A.under (.builtin "type.__call__" ⟨.ref C :: us, kw⟩)) outer s H := ⟨by first | exact e.frames | (simpa [Around.under, Code.envs, Code.isFrame, pushEnvs] using e.frames), e.mod, e.bs, e.bsz, e.funs, e.frf, e.hok, e.bare⟩

section
variable {X : Cx} {pins : List (Addr × Obj)} {σ : St} {H : Hp} {s s' : Shared}
theorem Inv.env0 (I : Inv X pins σ H s) : Env0 X.prog X.w X.K X.mg X.base X.A X.stack s H :=
  ⟨I.ok.frames, I.ok.mod, I.bs, Nat.le_trans I.ok.bsz I.sz, I.stack, I.stkFree, I.hok, I.bare⟩
theorem Inv.after {Q : VK} {u : Value} (I : Inv X pins σ H s) (h : CE X.stack X.prog X.w H s Q u s') : EP X pins σ Q u s' := by
  obtain ⟨v, H', os, bare, un, hok, r, q⟩ := h
  obtain ⟨hh, g, d, t, os'⟩ := s'
  obtain rfl : os' = s.os := os
  exact ⟨v, H', I.call (h' := hh) (g' := g) (d' := d) (t' := t) (ch := []) un hok bare (fun b z => absurd z (by simp)), r, q⟩
end

noncomputable def tCall_k1 (sp : Sp) (dvs : List V) (E : XK) (Q : VK) : List V → Hp → Prop := fun vs H1 => sp (vs ++ dvs) H1 Q E
noncomputable def tCall (sp : Sp) (dvs : List V) (E : XK) (t : TA) : TE := fun σ H Q => t σ H (tCall_k1 sp dvs E Q)

noncomputable def Binds (K : PySem.W.Frag) (fd : FuncData) (ps : List Str) (ds : List Value) : Prop :=
  ∀ (s : Shared) (us : List Value), K.In s.heap → (us ++ ds).length = ps.length → BindsTo s fd ⟨us, []⟩ (ps.zip (us ++ ds))
theorem Binds.all {K : PySem.W.Frag} {fd : FuncData} {ps : List Str} (h : ∀ us : List Value, us.length = ps.length → bindArgs fd ⟨us, []⟩ = pure (ps.zip us)) : Binds K fd ps [] := fun s us _ hl => by
  rw [List.append_nil] at hl ⊢
  exact .of_eq (h us hl)

noncomputable def Passes (CX : CXT) (X : Cx) (E : XK) : Prop := ∀ (pins : List (Addr × Obj)) (σ : St) (H : Hp) (s : Shared) (e : Value) (s' : Shared), Inv X pins σ H s → CX X.stack H s E e s' → X.xe e s'

section
variable {X : Cx} {CX : CXT} {k : Nat} {f C : Addr} {fd : FuncData} {ps : List Str} {sp : Sp} {dvs : List V} {ds : List Value} {E : XK} {x m : Str} {p pos apos : Pos} {e o : Expr} {es : List Expr} {ta : TE} {t : TA}

theorem run_fn {pins : List (Addr × Obj)} {σ : St} {H : Hp} {s : Shared} {Q : VK} {us : List Value} {vs : List V} (F : FnOk X.prog X.w X.K X.mg X.base CX k f fd ps sp) (hr : Room k X.A) (hb : Binds X.K fd ps ds) (hd : Vals dvs ds) (hx : Passes CX X E)
    (I : Inv X pins σ H s) (r : Vals vs us) (h : sp (vs ++ dvs) H Q E) : wpAny (model X.prog X.w) X.A (call (.ref f) us) (EP X pins σ Q) X.xe s := by
  have r2 : Vals (vs ++ dvs) (us ++ ds) := r.append hd
  have hl : (us ++ ds).length = ps.length := by rw [← r2.length]; exact F.len _ _ _ _ h
  refine wpAny_call (codeAny_mono (F.run X.A X.stack s H ⟨us, []⟩ (us ++ ds) (vs ++ dvs) Q E hr I.env0 (hb s us I.kIn hl) r2 h) fun r s' hq => ?_)
  cases r with
  | error e => exact hx pins σ H s e s' I hq
  | ok fl =>
    cases fl with
    | ret u => exact I.after hq
    | next => exact False.elim hq
    | brk => exact False.elim hq
    | cont => exact False.elim hq

theorem pe_call (F : FnOk X.prog X.w X.K X.mg X.base CX k f fd ps sp) (hr : Room k X.A) (hg : Gl X x) (hm : X.mg x = some (.ref f)) (hk : PySem.W.keepIn X.K (.ref f) = true) (hb : Binds X.K fd ps ds) (hd : Vals dvs ds) (hx : Passes CX X E)
    (ha : PA X (e :: es) t) (hdb : (x == ("__debug__" : Str)) = false := by decide) (he : starEach (e :: es) X.env = (false, eval e X.env) :: starEach es X.env := by rfl) (hpl : (backTo pos (starEach es X.env)).any (·.1) = false := by rfl) :
    PE X (.Call (.Name x p) (e :: es) [] pos) (tCall sp dvs E t) := by
  intro pins s σ H Q I h
  refine wpAny_Call_Name_kw (ld_glob I hg hm ?_ hdb)
  refine PySem.W.callWith_K (h₀ := X.base) I.ok.mod.kin hk (thn (ha pos pins s σ H _ I h) fun us s1 ⟨vs, H1, I1, r, q⟩ => ⟨I1.kIn, ?_⟩) he hpl
  exact run_fn F hr hb hd hx I1 r q



end

section
variable {X : Cx} {CX : CXT} {k : Nat} {f C : Addr} {fd : FuncData} {ps ks : List Str} {sp : Sp} {E : XK} {x m : Str} {p pos apos kpos : Pos} {e o : Expr} {es : List Expr} {kws : List Keyword} {te ta : TE} {t tk : TA} {nm : Option Str}

variable {g : List Value → List Value → List Value} {gV : List V → List V → List V}
end

structure FnScope (N P : List Str) (sc : Scope) : Prop where
  kind : sc.kind = .function
  co : sc.isCoroutine = false
  gen : sc.isGenerator = false
  nd : N.Nodup
  pre : N.take P.length = P
  par : ∀ x ∈ P, sc.names.lookup x = some .local ∨ sc.names.lookup x = some .cell
  nofree : ∀ y ∈ sc.names, y.2 ≠ .free

theorem bindL_out {kindOf : Str → Option NameKind} {x : Str} : ∀ {binds : List (Str × Value)} {m : Str → Option Value}, (∀ v, (x, v) ∉ binds) → bindL kindOf binds m x = m x
  | [], _, _ => rfl
  | (n, v) :: r, m, h => by
    unfold bindL
    rw [bindL_out fun w hw => h w (List.mem_cons_of_mem _ hw)]
    split
    · have : x ≠ n := by rintro rfl; exact h v List.mem_cons_self
      simp [this]
    · rfl
theorem bindC_out {kindOf : Str → Option NameKind} {x : Str} : ∀ {binds : List (Str × Value)} {m : Str → Option Value}, (∀ v, (x, v) ∉ binds) → bindC kindOf binds m x = m x
  | [], _, _ => rfl
  | (n, v) :: r, m, h => by
    unfold bindC
    rw [bindC_out fun w hw => h w (List.mem_cons_of_mem _ hw)]
    split
    · rfl
    · have : x ≠ n := by rintro rfl; exact h v List.mem_cons_self
      simp [this]
theorem bindL_get {kindOf : Str → Option NameKind} {x : Str} {v : Value} : ∀ {P : List Str} {vs : List Value} {i : Nat} {m : Str → Option Value}, P.Nodup → P[i]? = some x → vs[i]? = some v → kindOf x = some .local →
    bindL kindOf (P.zip vs) m x = some v
  | [], _, _, _, _, h, _, _ => by simp at h
  | _ :: _, [], _, _, _, _, h, _ => by simp at h
  | p :: P, w :: vs, 0, m, nd, h1, h2, hk => by
    simp at h1 h2; subst h1; subst h2
    show bindL kindOf ((p, w) :: P.zip vs) m p = _
    unfold bindL
    rw [bindL_out fun v hv => (List.nodup_cons.mp nd).1 (List.of_mem_zip hv).1, if_pos hk]
    simp
  | p :: P, w :: vs, i + 1, m, nd, h1, h2, hk => by
    show bindL kindOf ((p, w) :: P.zip vs) m x = _
    unfold bindL
    exact bindL_get (i := i) (List.nodup_cons.mp nd).2 (by simpa using h1) (by simpa using h2) hk
theorem bindC_get {kindOf : Str → Option NameKind} {x : Str} {v : Value} : ∀ {P : List Str} {vs : List Value} {i : Nat} {m : Str → Option Value}, P.Nodup → P[i]? = some x → vs[i]? = some v → kindOf x ≠ some .local →
    bindC kindOf (P.zip vs) m x = some v
  | [], _, _, _, _, h, _, _ => by simp at h
  | _ :: _, [], _, _, _, _, h, _ => by simp at h
  | p :: P, w :: vs, 0, m, nd, h1, h2, hk => by
    simp at h1 h2; subst h1; subst h2
    show bindC kindOf ((p, w) :: P.zip vs) m p = _
    unfold bindC
    rw [bindC_out fun v hv => (List.nodup_cons.mp nd).1 (List.of_mem_zip hv).1, if_neg hk]
    simp
  | p :: P, w :: vs, i + 1, m, nd, h1, h2, hk => by
    show bindC kindOf ((p, w) :: P.zip vs) m x = _
    unfold bindC
    exact bindC_get (i := i) (List.nodup_cons.mp nd).2 (by simpa using h1) (by simpa using h2) hk

noncomputable def start (N : List Str) (vs : List V) : St := vs.map some ++ List.replicate (N.length - vs.length) none

noncomputable def cxOf (CX : CXT) (P : Program) (w : World) (K : PySem.W.Frag) (mg : Str → Option Value) (base : Heap) (N : List Str) (qual : Str) (scope : Scope) (f : Addr) (cd : Value) (A : Around) (outer : List Env) (s : Shared) (H : Hp) (E : XK) : Cx where
  prog := P
  w := w
  K := K
  mg := mg
  base := base
  A := A.deeper (envOfC qual scope s.heap.objs.size f cd)
  N := N
  s₀ := s
  H₀ := H
  env := envOfC qual scope s.heap.objs.size f cd
  outer := outer
  stack := envOfC qual scope s.heap.objs.size f cd :: outer
  ex := []
  calm := true
  fn := fun _ => true
  pn := []
  lo := s.toks
  xe := fun e s' => wpAny (model P w) (A.deeper (envOfC qual scope s.heap.objs.size f cd)) (leaving (envOfC qual scope s.heap.objs.size f cd) e) (fun _ s'' => CX outer H s E e s'') (fun e' s'' => CX outer H s E e' s'') s'

theorem cell_has {sc : Scope} {n : Nat} {x : Str} (h : sc.names.lookup x = some .cell) : ∃ c, (cellsFrom n sc.names []).lookup x = some c := by
  have q := PySem.W.cellsFrom_some sc.names n [] (.inl h)
  exact Option.isSome_iff_exists.mp q

theorem inv_start {CX : CXT} {P : Program} {w : World} {K : PySem.W.Frag} {mg : Str → Option Value} {base : Heap} {N ps : List Str} {qual : Str} {scope : Scope} {f : Addr} {cd : Value} {A : Around} {outer : List Env} {s s1 : Shared} {H : Hp} {E : XK} {us : List Value} {vs : List V}
    (S : FnScope N ps scope) (hd : A.handled = none) (e0 : Env0 P w K mg base A outer s H) (hl : vs.length = ps.length) (r : Vals vs us)
    (x : InCallC s s.heap.objs.size (bindL (envOfC qual scope s.heap.objs.size f cd).kindOf (ps.zip us) fun _ => none) (cellsFrom (s.heap.objs.size + 1) scope.names []) (bindC (envOfC qual scope s.heap.objs.size f cd).kindOf (ps.zip us) fun _ => none) s1) :
    InvW (cxOf CX P w K mg base N qual scope f cd A outer s H E) [] (start N vs) H s1 := by
  have hpl : ps.length ≤ N.length := by have := congrArg List.length S.pre; rw [List.length_take] at this; omega
  obtain ⟨h1, tk, rfl, hk⟩ := x.done
  have noA : ∀ b : Addr, b ∉ (cxOf CX P w K mg base N qual scope f cd A outer s H E).ex := fun b z => absurd (show b ∈ ([] : List Addr) from z) (by simp)
  refine ⟨⟨e0.mod, S.kind, rfl, rfl, Nat.le_refl _, fun y z c h1 h2 => ?_, fun y hy => ?_, fun y c _ h => ?_, fun _ => hd, Around.frames_deeper e0.frames, .inr ⟨rfl, rfl⟩, fun b z => absurd z (noA b), e0.bs, e0.bsz, fun b _ _ => noA b, fun b z => absurd z (noA b), e0.funs, e0.frf⟩,
    rfl, e0.bare, Un.kept hk, ⟨_, x.toInCall.ns, fun i y v h1 h2 h3 => ?_⟩, fun y c h => ⟨_, x.cell y c h⟩, e0.hok.fresh (Nat.le_refl _), fun y c h => ?_, fun p hp => absurd (show p ∈ ([] : List (Addr × Obj)) from hp) (by simp), e0.hok.kept hk, ?_⟩
  · exact name_of_addr x.apart (PySem.mem_of_lookup h1) (PySem.mem_of_lookup h2)
  · have hy : scope.names.lookup y = some .cell ∨ scope.names.lookup y = some .free := hy
    rcases hy with hy | hy
    · exact cell_has hy
    · exact absurd rfl (S.nofree _ (PySem.mem_of_lookup hy))
  · exact Nat.le_of_lt (x.above y c (PySem.mem_of_lookup h))
  · have hi : i < vs.length := by
      unfold start at h2
      by_cases hi : i < vs.length
      · exact hi
      · rw [List.getElem?_append_right (by simpa using hi)] at h2
        rw [List.getElem?_replicate] at h2
        split at h2 <;> cases h2
    have ha : vs[i]? = some v := by
      unfold start at h2
      rw [List.getElem?_append_left (by simpa using hi), List.getElem?_map] at h2
      cases e : vs[i]? with
      | none => rw [e] at h2; cases h2
      | some a => rw [e] at h2; cases h2; rfl
    obtain ⟨u, hu, rv⟩ := r.get ha
    have hp : ps[i]? = some y := by
      rw [← S.pre, List.getElem?_take_of_lt (by omega)]; exact h1
    have ndP : ps.Nodup := by rw [← S.pre]; exact S.nd.sublist (List.take_sublist _ _)
    refine ⟨u, rv, ?_⟩
    rcases S.par y (List.mem_of_getElem? hp) with k | k
    · exact .inl ⟨k, bindL_get ndP hp hu k⟩
    · obtain ⟨c, e⟩ := cell_has (n := s.heap.objs.size + 1) k
      refine .inr ⟨.inl k, c, e, ?_⟩
      have q := x.cell y c e
      rw [bindC_get ndP hp hu (by show scope.names.lookup y ≠ _; rw [k]; decide)] at q
      exact q
  · exact e0.hok.fresh (Nat.le_of_lt (x.above y c (PySem.mem_of_lookup h)))
  · unfold start
    show _ = N.length
    rw [List.length_append, List.length_map, List.length_replicate]
    omega

theorem fn_of {CX : CXT} {P : Program} {w : World} {K : PySem.W.Frag} {mg : Str → Option Value} {base : Heap} {k : Nat} {f : Addr} {name qual : Str} {params : Arguments} {body : List Stmt} {scope : Scope} {dV kV doc pm cdv ct oc : Value} {an od : Option Addr}
    {osl : Array (Option Value)} {N ps : List Str} {sp : Sp} (lk : K.lookup f = some ⟨oc, od, .func (PySem.W.fnOf name qual params body scope dV kV doc pm an cdv ct), osl⟩) (hcd : PySem.W.codeIn K cdv qual = true) (S : FnScope N ps scope)
    (len : ∀ vs H Q E, sp vs H Q E → vs.length = ps.length)
    (hbody : ∀ (A : Around) (outer : List Env) (s : Shared) (H : Hp) (vs : List V) (Q : VK) (E : XK), Room k (A.deeper (envOfC qual scope s.heap.objs.size f cdv)) → sp vs H Q E →
      ∃ t, PSs (cxOf CX P w K mg base N qual scope f cdv A outer s H E) body t ∧ t { nx := fun _ H' => Q .non H', rt := Q } (start N vs) H) :
    FnOk P w K mg base CX (k + 1) f (PySem.W.fnOf name qual params body scope dV kV doc pm an cdv ct) ps sp := by
  refine ⟨len, fun A outer s H args us vs Q E hr e0 hb r hsp => ?_⟩
  have hl := len _ _ _ _ hsp
  have KX : K.In s.heap := e0.mod.kin.keeps fun b o e => (e0.bs b o e).1
  have lim : s.heap.NoLimit := e0.mod.nolimit.keeps fun b o e => (e0.bs b o e).1
  have hkind : ∀ y ∈ ps.zip us, scope.names.lookup y.1 = some .local ∨ (scope.names.lookup y.1 = some .cell ∧ ((cellsFrom (s.heap.objs.size + 1) scope.names []).lookup y.1).isSome = true) := fun ⟨n, v⟩ hy => by
    rcases S.par n (List.of_mem_zip hy).1 with q | q
    · exact .inl q
    · exact .inr ⟨q, PySem.W.cellsFrom_some _ _ _ (.inl q)⟩
  refine codeAny_call_function hr.depth (KX _ _ lk) rfl S.co S.gen rfl (PySem.W.codeRec_of KX hcd) (hb _ _ _ _ ?_)
  refine wt (n := s.toks) (Nat.le_refl _) (wpAny_newFunctionEnv_cells S.kind hkind fun env he s1 x hlo => ?_)
  subst he
  refine ⟨lim.keeps x.toInCall.keep, codeAny_func ?_⟩
  obtain ⟨t, ht, hq⟩ := hbody A outer s H vs Q E (hr.deeper _) hsp
  have I : Inv (cxOf CX P w K mg base N qual scope f cdv A outer s H E) [] (start N vs) H s1 := (inv_start S hr.hd e0 hl r x).up hlo
  refine wpAny_mono (ht [] s1 (start N vs) H _ I hq) (fun fl s' hs => ?_) fun e s' hs => hs
  have fin : ∀ {σ' : St} {H' : Hp} {v : V} {u : Value}, InvW (cxOf CX P w K mg base N qual scope f cdv A outer s H E) [] σ' H' s' → RelV v u → Q v H' → CE outer P w H s Q u s' :=
    fun {σ' H' v u} J rv q => ⟨v, H', J.os, J.bare, J.base, J.hok, rv, q⟩
  cases fl with
  | ret u =>
    obtain ⟨v, σ', H', J, rv, q⟩ := hs
    exact fin J rv q
  | next =>
    obtain ⟨σ', H', J, q⟩ := hs
    exact fin (v := V.non) (u := Value.none) J rfl q
  | brk =>
    obtain ⟨_, _, _, q⟩ := hs
    exact False.elim q
  | cont =>
    obtain ⟨_, _, _, q⟩ := hs
    exact False.elim q
end L2

namespace L2
open PySem PySem.Spec PyProof.Rows
section
variable {X : Cx} {x : Str} {p pos : Pos} {e : Expr} {es : List Expr} {t : TA} {id T : String} {r : List V → Hp → VK → Prop}

noncomputable def tCB_k1 (r : List V → Hp → VK → Prop) (Q : VK) : List V → Hp → Prop := fun vs H1 => r vs H1 Q
noncomputable def tCB (r : List V → Hp → VK → Prop) (t : TA) : TE := fun σ H Q => t σ H (tCB_k1 r Q)
theorem pe_callB (hc : CallR X (.builtin id) r) (hg : Gl X x) (hm : X.mg x = none) (hv : bootBuiltins x = some (.builtin id)) (ha : PA X (e :: es) t) (hn : x ≠ "__name__" := by decide) (hdb : (x == ("__debug__" : Str)) = false := by decide)
    (he : starEach (e :: es) X.env = (false, eval e X.env) :: starEach es X.env := by rfl) (hpl : (backTo pos (starEach es X.env)).any (·.1) = false := by rfl) : PE X (.Call (.Name x p) (e :: es) [] pos) (tCB r t) := by
  intro pins s σ H Q I h
  refine wpAny_Call_Name_kw (ld_blt I hg hm hv ?_ hn hdb)
  exact PyProof.Rows.callWith_builtin1 (thn (ha pos pins s σ H _ I h) fun us s1 zq60 => (by obtain ⟨vs, H1, I1, r1, q1⟩ := zq60; exact hc pins s1 σ H1 vs us Q I1 r1 q1)) he hpl
theorem pe_callTy (hc : CallR X (.type T) r) (hg : Gl X x) (hm : X.mg x = none) (hv : bootBuiltins x = some (.type T)) (ha : PA X (e :: es) t) (hn : x ≠ "__name__" := by decide) (hdb : (x == ("__debug__" : Str)) = false := by decide)
    (he : starEach (e :: es) X.env = (false, eval e X.env) :: starEach es X.env := by rfl) (hpl : (backTo pos (starEach es X.env)).any (·.1) = false := by rfl) : PE X (.Call (.Name x p) (e :: es) [] pos) (tCB r t) := by
  intro pins s σ H Q I h
  refine wpAny_Call_Name_kw (ld_blt I hg hm hv ?_ hn hdb)
  exact PyProof.Rows.callWith_type1 (thn (ha pos pins s σ H _ I h) fun us s1 zq61 => (by obtain ⟨vs, H1, I1, r1, q1⟩ := zq61; exact hc pins s1 σ H1 vs us Q I1 r1 q1)) he hpl
end
end L2

namespace HT
open PySem PyProof.Rows



section
open PySem.SeqAt
open PySem.AutoSeq1 (wpAny_loadPart')
open PySem.MeetsSeq PySem.MeetsSeq2 PySem.MeetsSeq3

end

section
variable {prog : Program} {w : World} {A : Around} {E : Value → Shared → Prop} {s : Shared}



noncomputable def sIx (n d : Nat) : Option Int → Nat
  | none => d
  | some v => if v < 0 then (v + (n : Int)).toNat else min v.toNat n
theorem sIx_none (n d : Nat) : sIx n d none = d := rfl
theorem sIx_nat (n d k : Nat) : sIx n d (some (k : Int)) = min k n := by
  show (if (k : Int) < 0 then ((k : Int) + (n : Int)).toNat else min (k : Int).toNat n) = min k n
  rw [if_neg (by omega), Int.toNat_natCast]
theorem sIx_le (n d : Nat) (hd : d ≤ n) (o : Option Int) : sIx n d o ≤ n := by
  cases o with
  | none => exact hd
  | some v =>
    show (if v < 0 then (v + (n : Int)).toNat else min v.toNat n) ≤ n
    by_cases hv : v < 0
    · rw [if_pos hv]; omega
    · rw [if_neg hv]; exact Nat.min_le_right _ _

end
end HT

namespace L2
open PySem PySem.Spec PyProof.Rows

noncomputable abbrev TO := St → Hp → (Option Int → Hp → Prop) → Prop
noncomputable def PO (X : Cx) (e : Option Expr) (t : TO) : Prop :=
  ∀ (pins : List (Addr × Obj)) (s : Shared) (σ : St) (H : Hp) (Q : Option Int → Hp → Prop), Inv X pins σ H s → t σ H Q →
    wpAny (model X.prog X.w) X.A (evalPart e X.env) (fun u s' => ∃ o H', Inv X pins σ H' s' ∧ IsPart u o ∧ Q o H') X.xe s
noncomputable def tNoPart : TO := fun _ H Q => Q none H
inductive IsI (x : V) (H : Hp) (Q : Option Int → Hp → Prop) : Prop
  | mk : ∀ i, (x = .int i) → (Q (some i) H) → IsI x H Q
noncomputable def tPart_k1 (Q : (Option Int → Hp → Prop)) : V → Hp → Prop := fun x H1 => IsI x H1 Q
noncomputable def tPart (t : TE) : TO := fun σ H Q => t σ H (tPart_k1 Q)


section
variable {X : Cx} {e : Expr} {te : TE} {lo hi : Option Expr} {tl th : TO} {pos p2 : Pos}

theorem po_none : PO X none tNoPart := by
  intro pins s σ H Q I h
  rw [evalPart_none]
  exact wpAny_pure ⟨none, H, I, .none, h⟩
theorem po_some (h : PE X e te) : PO X (some e) (tPart te) := by
  intro pins s σ H Q I hw
  rw [evalPart_some]
  refine thn (h pins s σ H _ I hw) fun u s1 zq62 => ?_
  obtain ⟨x, H1, I1, r1, q1⟩ := zq62
  obtain ⟨i, rfl, q⟩ := q1
  obtain ⟨t, rfl⟩ := r1
  exact ⟨some i, H1, I1, .int i t, q⟩

noncomputable def SlR (X : Cx) (r : V → Option Int → Option Int → Hp → VK → Prop) : Prop :=
  ∀ (pins : List (Addr × Obj)) (s : Shared) (σ : St) (H : Hp) (x : V) (v vl vu : Value) (lo hi : Option Int) (sl : Addr) (Q : VK), Inv X pins σ H s → RelV x v → s.heap.IsSliceOf sl vl vu .none → IsPart vl lo → IsPart vu hi → r x lo hi H Q →
    ∃ T id, typeLookup (.type T) "__getitem__" = pure (some (.builtin id)) ∧ s.TypeIs v T ∧ wpAny (model X.prog X.w) X.A (getItem v (.ref sl)) (EP X pins σ Q) X.xe s
noncomputable def tSl_k1 (r : V → Option Int → Option Int → Hp → VK → Prop) (Q : VK) (x : V) (l : Option Int) : Option Int → Hp → Prop := fun u H3 => r x l u H3 Q
noncomputable def tSl_k2 (r : V → Option Int → Option Int → Hp → VK → Prop) (th : TO) (σ : St) (Q : VK) (x : V) : Option Int → Hp → Prop := fun l H2 => th σ H2 (tSl_k1 r Q x l)
noncomputable def tSl_k3 (r : V → Option Int → Option Int → Hp → VK → Prop) (tl : TO) (th : TO) (σ : St) (Q : VK) : V → Hp → Prop := fun x H1 => tl σ H1 (tSl_k2 r th σ Q x)
noncomputable def tSl (r : V → Option Int → Option Int → Hp → VK → Prop) (te : TE) (tl th : TO) : TE := fun σ H Q => te σ H (tSl_k3 r tl th σ Q)
theorem pe_slice {r : V → Option Int → Option Int → Hp → VK → Prop} (hr : SlR X r) (he : PE X e te) (hl : PO X lo tl) (hu : PO X hi th) : PE X (.Subscript e (.Slice lo hi none p2) pos) (tSl r te tl th) := by
  intro pins s σ H Q I h
  refine Subscript_ (thn (he pins s σ H _ I h) fun v s1 zq63 => ?_)
  obtain ⟨x, H1, I1, r1, q1⟩ := zq63
  refine wpAny_Slice (thn (hl pins s1 σ H1 _ I1 q1) fun vl s2 ⟨l, H2, I2, pl, q2⟩ => thn (hu pins s2 σ H2 _ I2 q2) fun vu s3 zq64 => ?_)
  obtain ⟨u, H3, I3, pu, q3⟩ := zq64
  rw [evalPart_none]
  refine wpAny_pure ?_
  have I4 : Inv X pins σ H3 { s3 with heap := s3.heap.push { cls := .type "slice", data := .fields #[vl, vu, .none] } } := (I3.kept (t' := s3.toks) fun b ob q => Heap.get?_push_of_some _ q).up I3.low
  obtain ⟨T, id, hT, ht, hg⟩ := hr pins { s3 with heap := s3.heap.push { cls := .type "slice", data := .fields #[vl, vu, .none] } } σ H3 x v vl vu l u s3.heap.objs.size Q I4 r1 (Heap.IsSliceOf.new ..) pl pu q3
  show wpAny (model X.prog X.w) X.A (subscriptTail e (.Slice lo hi none p2) v (.ref s3.heap.objs.size)) (EP X pins σ Q) X.xe { s3 with heap := s3.heap.push { cls := .type "slice", data := .fields #[vl, vu, .none] } }
  exact tail_any (ops := [.ref s3.heap.objs.size, v]) ht hT hg (by with_unfolding_all rfl)

noncomputable def cutV (xs : List V) (lo hi : Option Int) : List V := (xs.drop (HT.sIx xs.length 0 lo)).take (HT.sIx xs.length xs.length hi - HT.sIx xs.length 0 lo)
theorem cutV_length (xs : List V) (lo hi : Option Int) : (cutV xs lo hi).length ≤ xs.length := by
  unfold cutV
  rw [List.length_take, List.length_drop]
  omega

end
end L2

namespace L2
open PySem PySem.Spec PyProof.Rows

noncomputable def ixN (n : Nat) (i : Int) : Option Nat := if 0 ≤ i then (if i < n then some i.toNat else none) else if -(n : Int) ≤ i then some (i + n).toNat else none
noncomputable def atI {α : Type} (xs : List α) (i : Int) : Option α := (ixN xs.length i).bind fun j => xs[j]?
theorem ixN_seq {n : Nat} {i : Int} {j : Nat} (h : ixN n i = some j) : seqIndex? i n = some j ∧ j < n ∧ -(n : Int) ≤ i ∧ i < n := by
  unfold ixN at h
  by_cases h0 : 0 ≤ i
  · rw [if_pos h0] at h
    by_cases h1 : i < n
    · rw [if_pos h1] at h
      have e : i.toNat = j := Option.some.inj h
      exact ⟨by rw [seqIndex_of h0 h1, e], by omega, by omega, h1⟩
    · rw [if_neg h1] at h; cases h
  · rw [if_neg h0] at h
    by_cases h1 : -(n : Int) ≤ i
    · rw [if_pos h1] at h
      have e : (i + n).toNat = j := Option.some.inj h
      exact ⟨by rw [seqIndex_neg (by omega) h1, e], by omega, h1, by omega⟩
    · rw [if_neg h1] at h; cases h
theorem atI_get {α : Type} {xs : List α} {i : Int} {v : α} (h : atI xs i = some v) : ∃ j, seqIndex? i xs.length = some j ∧ xs[j]? = some v ∧ j < xs.length ∧ -(xs.length : Int) ≤ i ∧ i < xs.length := by
  unfold atI at h
  cases e : ixN xs.length i with
  | none => rw [e] at h; cases h
  | some j =>
    rw [e] at h
    obtain ⟨h1, h2, h3, h4⟩ := ixN_seq e
    exact ⟨j, h1, h, h2, h3, h4⟩
theorem atI_nat {α : Type} {xs : List α} {j : Nat} {v : α} (h : xs[j]? = some v) : atI xs (j : Int) = some v := by
  have hj : j < xs.length := (List.getElem?_eq_some_iff.mp h).1
  have e : ixN xs.length (j : Int) = some j := by
    unfold ixN
    rw [if_pos (by omega), if_pos (by omega)]; simp
  unfold atI; rw [e]; exact h

noncomputable def PlainIx (b : Expr) : Prop := ∀ o i, subscripted b false o i = operate [o, i] (getItem o i)
noncomputable def IxR (X : Cx) (r : R2) : Prop :=
  ∀ (value slice : Expr) (pins : List (Addr × Obj)) (s : Shared) (σ : St) (H : Hp) (x y : V) (v u : Value) (Q : VK), Inv X pins σ H s → RelV x v → RelV y u → r x y H Q →
    subscripted slice false v u = operate [v, u] (getItem v u) → wpAny (model X.prog X.w) X.A (subscriptTail value slice v u) (EP X pins σ Q) X.xe s
noncomputable def MtR (X : Cx) (id : String) (r : V → List V → Hp → VK → Prop) : Prop :=
  ∀ (pins : List (Addr × Obj)) (s : Shared) (σ : St) (H : Hp) (x : V) (xs : List V) (v : Value) (us : List Value) (Q : VK), Inv X pins σ H s → RelV x v → Vals xs us → r x xs H Q →
    wpAny (model X.prog X.w) X.A (call (.builtin id) (v :: us)) (EP X pins σ Q) X.xe s
section
variable {X : Cx} {a b : Expr} {ta tb : TE} {pos : Pos}
theorem pe_ix {r : R2} (hr : IxR X r) (ha : PE X a ta) (hb : PE X b tb) (hs : PlainIx b) : PE X (.Subscript a b pos) (tOp r ta tb) := by
  intro pins s σ H Q I h
  exact Subscript_ (binT ha hb I h fun v u s2 x y H2 I2 rx ry q => hr a b pins s2 σ H2 x y v u Q I2 rx ry q (hs _ _))

inductive rIxL (K : PySem.W.Frag) (x : V) (y : V) (H : Hp) (Q : VK) : Prop
  | mk : ∀ p xs i v, (x = .ref p) → (y = .int i) → (SqL K H p xs) → (atI xs i = some v) → (Q v H) → rIxL K x y H Q
inductive rIxT (K : PySem.W.Frag) (x : V) (y : V) (H : Hp) (Q : VK) : Prop
  | mk : ∀ p xs i v, (x = .ref p) → (y = .int i) → (SqT K H p xs) → (atI xs i = some v) → (Q v H) → rIxT K x y H Q
inductive rIxS (x : V) (y : V) (H : Hp) (Q : VK) : Prop
  | mk : ∀ z i c, (x = .str z) → (y = .int i) → (z.length ≤ sizeLine) → (atI z.cps.toList i = some c) → (Q (.str ⟨#[c]⟩) H) → rIxS x y H Q
theorem ix_list : IxR X (rIxL X.K) := by
  intro value slice pins s σ H x y v u Q I rx ry h hs
  obtain ⟨p, xs, i, z, rfl, rfl, hq, he, q⟩ := h
  cases rx
  obtain ⟨t, rfl⟩ := ry
  obtain ⟨its, r, pl, hz⟩ := I.list hq
  obtain ⟨j, h1, h2, h3, h4, h5⟩ := atI_get he
  obtain ⟨w, ew, rw'⟩ := r.get h2
  have hl := r.length
  have hn := line63
  have fin : EP X pins σ Q w s := ⟨z, H, I, rw', q⟩
  by_cases h0 : 0 ≤ i
  · have hj : i.toNat = j := by
      rw [seqIndex_of h0 h5] at h1
      exact Option.some.inj h1
    exact item_listR pl.isList h0 (by omega) (by rw [hj]; simpa using ew) fin hs
  · have hj : (i + (its.toArray.size : Int)).toNat = j := by
      rw [seqIndex_neg (by omega) h4] at h1
      rw [List.size_toArray, ← hl]
      exact Option.some.inj h1
    exact subscriptTail_builtinR (x := w) pl.isList.typeIs slot_list_getitem.lookup
      (wpAny_getItem_list_neg (Q := fun r s' => r = w ∧ EP X pins σ Q r s') pl.isList (by omega) (by rw [List.size_toArray] <;> omega) (by omega) (by rw [hj]; simpa using ew) ⟨rfl, fin⟩) hs
theorem ix_tup : IxR X (rIxT X.K) := by
  intro value slice pins s σ H x y v u Q I rx ry h hs
  obtain ⟨p, xs, i, z, rfl, rfl, hq, he, q⟩ := h
  cases rx
  obtain ⟨t, rfl⟩ := ry
  obtain ⟨its, r, pl, hz⟩ := I.tuple hq
  obtain ⟨j, h1, h2, h3, h4, h5⟩ := atI_get he
  obtain ⟨w, ew, rw'⟩ := r.get h2
  have hl := r.length
  have hn := line63
  have fin : EP X pins σ Q w s := ⟨z, H, I, rw', q⟩
  exact subscriptTail_builtinR (x := w) pl.typeIs slot_tuple_getitem.lookup
    (getItem_tuple (j := j) (Q := fun r s' => r = w ∧ EP X pins σ Q r s') pl (by omega) (by omega) (by rw [List.size_toArray, ← hl]; exact h1) (by simpa using ew) ⟨rfl, fin⟩) hs
theorem ix_str : IxR X rIxS := by
  intro value slice pins s σ H x y v u Q I rx ry h hs
  obtain ⟨z, i, c, rfl, rfl, hz, he, q⟩ := h
  obtain ⟨t, rfl⟩ := rx
  obtain ⟨t', rfl⟩ := ry
  obtain ⟨j, h1, h2, h3, h4, h5⟩ := atI_get he
  have hl : z.cps.toList.length = z.length := by simp [Str.length]
  rw [hl] at h1 h4 h5
  have hn := line63
  exact tail_any (typeIs_str s z t) slot_str_getitem.lookup (getItem_str (c := c) (by
    have e1 : decide (i < -(2 ^ 63 : Int)) = false := decide_eq_false (by omega)
    have e2 : decide (i ≥ 2 ^ 63) = false := decide_eq_false (by omega)
    rw [e1, e2, Bool.or_false]) (by rw [h1]; simpa using h2) ⟨.str ⟨#[c]⟩, H, I.tok _, ⟨_, rfl⟩, q⟩) hs

theorem Inv.lst {pins : List (Addr × Obj)} {σ : St} {H : Hp} {s : Shared} {p : Addr} {xs : List V} (I : Inv X pins σ H s) (h : H p = some (.lst xs)) :
    ∃ (its : List Value) (n : Nat), Vals xs its ∧ s.heap.get? p = some { cls := .type "list", data := .seq its.toArray n } ∧ xs.length ≤ sizeLine := by
  obtain ⟨z, its, n, r, e⟩ := I.hok p _ h
  exact ⟨its, n, r, e, z⟩

theorem slice_bounds (lo hi : Option Int) (n : Nat) : (sliceBounds lo hi none n).1 = ((HT.sIx n 0 lo : Nat) : Int) ∧ (sliceBounds lo hi none n).2.1 = ((HT.sIx n n hi : Nat) : Int) ∧ (sliceBounds lo hi none n).2.2 = 1 := by
  refine ⟨?_, ?_, rfl⟩
  · cases lo with
    | none => simp [sliceBounds, HT.sIx]
    | some i =>
      simp only [sliceBounds, HT.sIx, Option.getD_none, show (1 : Int) > 0 by decide, if_true]
      by_cases h : i < 0
      · simp only [h, if_true] <;> omega
      · simp only [h, if_false] <;> omega
  · cases hi with
    | none => simp [sliceBounds, HT.sIx]
    | some i =>
      simp only [sliceBounds, HT.sIx, Option.getD_none, show (1 : Int) > 0 by decide, if_true]
      by_cases h : i < 0
      · simp only [h, if_true] <;> omega
      · simp only [h, if_false] <;> omega
theorem slicePick_cut (its : List Value) (lo hi : Option Int) : slicePick its.toArray lo hi none = ((its.drop (HT.sIx its.length 0 lo)).take (HT.sIx its.length its.length hi - HT.sIx its.length 0 lo)).toArray := by
  obtain ⟨h1, h2, h3⟩ := slice_bounds lo hi its.toArray.size
  unfold slicePick
  rw [h1, h2, h3]
  simp only [sliceRange_one, pick_run, List.size_toArray] <;> rfl
inductive rSlL (K : PySem.W.Frag) (x : V) (lo : Option Int) (hi : Option Int) (H : Hp) (Q : VK) : Prop
  | mk : ∀ a xs, (x = .ref a) → (SqL K H a xs) → (∀ p, H p = none → Q (.ref p) (upd H p (.lst (cutV xs lo hi)))) → rSlL K x lo hi H Q
theorem sl_list : SlR X (rSlL X.K) := by
  intro pins s σ H x v vl vu lo hi sl Q I rx hs pl pu h
  obtain ⟨a, xs, rfl, hx, q⟩ := h
  cases rx
  obtain ⟨its, r, ht, hz⟩ := I.list hx
  have hlen := r.length
  refine ⟨"list", _, slot_list_getitem.lookup, ht.isList.typeIs, ?_⟩
  refine wpAny_getItem_list_slice ht.isList hs pl pu .none (by simp) ?_ (by rw [List.size_toArray] <;> omega)
  rw [slicePick_cut, ← hlen]
  refine ⟨.ref s.heap.objs.size, _, I.laid (t' := s.toks) (o := .lst (cutV xs lo hi)) (fun b ob q => Heap.get?_push_of_some _ q) (Nat.le_refl _) ?_, rfl, q _ (I.hok.fresh (Nat.le_refl _))⟩
  exact ⟨Nat.le_trans (cutV_length xs lo hi) hz, _, 0, (r.drop (HT.sIx xs.length 0 lo)).take (HT.sIx xs.length xs.length hi - HT.sIx xs.length 0 lo), Heap.get?_push_size _ rfl⟩

noncomputable def flatV : V → Bool
  | .non => true
  | .bl _ => true
  | .int _ => true
  | .str _ => true
  | _ => false
noncomputable def eqV : V → V → Bool
  | .non, .non => true
  | .bl a, .bl b => a == b
  | .bl a, .int b => (if a then 1 else 0) == b
  | .int a, .bl b => a == (if b then 1 else 0)
  | .int a, .int b => a == b
  | .str a, .str b => a == b
  | _, _ => false
theorem eqAt_V {A : Around} {s : Shared} {y x : V} {u v : Value} (ry : RelV y u) (rx : RelV x v) (fy : flatV y = true) (fx : flatV x = true) : SeqAt.EqAt A s u v (eqV y x) := by
  cases y with
  | non =>
    cases ry
    cases x with
    | non => cases rx; exact SeqAt.EqAt.same _
    | bl b => cases rx; exact SeqAt.EqAt.none_bool b
    | int b => obtain ⟨t, rfl⟩ := rx; exact SeqAt.EqAt.none_int b t
    | str b => obtain ⟨t, rfl⟩ := rx; exact SeqAt.EqAt.none_str b t
    | _ => exact absurd (show false = true from fx) Bool.false_ne_true
  | bl a =>
    cases ry
    cases x with
    | non => cases rx; exact SeqAt.EqAt.bool_none a
    | bl b => cases rx; exact SeqAt.EqAt.bool_bool a b
    | int b => obtain ⟨t, rfl⟩ := rx; exact SeqAt.EqAt.bool_int a b t
    | str b => obtain ⟨t, rfl⟩ := rx; exact SeqAt.EqAt.bool_str a b t
    | _ => exact absurd (show false = true from fx) Bool.false_ne_true
  | int a =>
    obtain ⟨t', rfl⟩ := ry
    cases x with
    | non => cases rx; exact SeqAt.EqAt.int_none a t'
    | bl b => cases rx; exact SeqAt.EqAt.int_bool a t' b
    | int b => obtain ⟨t, rfl⟩ := rx; exact SeqAt.EqAt.int_int a t' b t
    | str b => obtain ⟨t, rfl⟩ := rx; exact SeqAt.EqAt.int_str a t' b t
    | _ => exact absurd (show false = true from fx) Bool.false_ne_true
  | str a =>
    obtain ⟨t', rfl⟩ := ry
    cases x with
    | non => cases rx; exact SeqAt.EqAt.str_none a t'
    | bl b => cases rx; exact SeqAt.EqAt.str_bool a t' b
    | int b => obtain ⟨t, rfl⟩ := rx; exact SeqAt.EqAt.str_int a t' b t
    | str b => obtain ⟨t, rfl⟩ := rx; exact SeqAt.EqAt.str_str a t' b t
    | _ => exact absurd (show false = true from fx) Bool.false_ne_true
  | _ => exact absurd (show false = true from fy) Bool.false_ne_true
noncomputable def eqU (x : V) (u : Value) : Bool := match u with
  | .none => eqV .non x
  | .bool b => eqV (.bl b) x
  | .int i _ => eqV (.int i) x
  | .str z _ => eqV (.str z) x
  | _ => false
theorem eqU_of {x y : V} {u : Value} (r : RelV y u) (f : flatV y = true) : eqU x u = eqV y x := by
  cases y with
  | non => cases r; rfl
  | bl b => cases r; rfl
  | int i => obtain ⟨t, rfl⟩ := r; rfl
  | str z => obtain ⟨t, rfl⟩ := r; rfl
  | _ => exact absurd (show false = true from f) Bool.false_ne_true
theorem any_eqU {x : V} : ∀ {xs : List V} {us : List Value}, Vals xs us → xs.all flatV = true → us.any (eqU x) = xs.any fun y => eqV y x
  | _, _, .nil, _ => rfl
  | y :: xs, u :: us, .cons r t, f => by
    rw [List.all_cons, Bool.and_eq_true] at f
    rw [List.any_cons, List.any_cons, eqU_of r f.1, any_eqU t f.2]
theorem mem_eqAt {A : Around} {s : Shared} {x : V} {v : Value} (rx : RelV x v) (fx : flatV x = true) : ∀ {xs : List V} {us : List Value}, Vals xs us → xs.all flatV = true → ∀ u ∈ us, SeqAt.EqAt A s u v (eqU x u)
  | _, _, .nil, _ => fun u hu => by cases hu
  | y :: xs, u :: us, .cons r t, f => fun u' hu => by
    rw [List.all_cons, Bool.and_eq_true] at f
    rcases List.mem_cons.mp hu with rfl | hu
    · rw [eqU_of r f.1]; exact eqAt_V r rx f.1 fx
    · exact mem_eqAt rx fx t f.2 u' hu
noncomputable def inV (x : V) (xs : List V) : Bool := xs.any fun y => eqV y x
inductive rIn (K : PySem.W.Frag) (neg : Bool) (x : V) (y : V) (H : Hp) (Q : VK) : Prop
  | mk : ∀ p xs, (y = .ref p) → ((SqL K H p xs ∨ SqT K H p xs)) → (flatV x = true) → (xs.all flatV = true) → (Q (.bl (if neg then !inV x xs else inV x xs)) H) → rIn K neg x y H Q
theorem op_notIn_seq : OpR X (compareOp .NotIn) (rIn X.K true) := by
  intro pins s σ H x y v u Q I rx ry h
  obtain ⟨p, xs, rfl, hq, fx, fs, q⟩ := h
  cases ry
  rcases hq with hq | hq
  · obtain ⟨its, r, pl, hz⟩ := I.list hq
    refine SeqAt.notIn_listAt (eqU x) pl.isList (fun w hw => mem_eqAt rx fx r fs w (by simpa using hw)) ⟨.bl _, H, I, rfl, ?_⟩
    rw [show its.toArray.any (eqU x) = its.any (eqU x) by simp, any_eqU r fs]
    exact q
  · obtain ⟨its, r, pl, hz⟩ := I.tuple hq
    refine SeqAt.notIn_tupleAt (eqU x) pl (fun w hw => mem_eqAt rx fx r fs w (by simpa using hw)) ⟨.bl _, H, I, rfl, ?_⟩
    rw [show its.toArray.any (eqU x) = its.any (eqU x) by simp, any_eqU r fs]
    exact q

inductive call_len_seq_r (K : PySem.W.Frag) (xs : List V) (H : Hp) (Q : VK) : Prop
  | mk : ∀ p ys, (xs = [.ref p]) → ((SqL K H p ys ∨ SqT K H p ys)) → (Q (.int ys.length) H) → call_len_seq_r K xs H Q
theorem call_len_seq : CallR X (.builtin "len") (call_len_seq_r X.K) := by
  intro pins s σ H xs us Q I r h
  obtain ⟨p, ys, rfl, hq, q⟩ := h
  obtain ⟨u, rfl, rx⟩ := vals1 r
  cases rx
  have hn := line63
  rcases hq with hq | hq
  · obtain ⟨its, r', pl, hz⟩ := I.list hq
    have hlen := r'.length
    exact Calls.call_len_list pl.isList (by simp only [List.size_toArray] <;> omega) ⟨.int ys.length, H, I.tok _, ⟨s.toks + 1, by rw [List.size_toArray, hlen]⟩, q⟩
  · obtain ⟨its, r', pl, hz⟩ := I.tuple hq
    have hlen := r'.length
    exact len_tuple pl (by simp only [List.size_toArray] <;> omega) ⟨.int ys.length, H, I.tok _, ⟨s.toks + 1, by rw [List.size_toArray, hlen]⟩, q⟩
inductive call_len_str_r  (xs : List V) (H : Hp) (Q : VK) : Prop
  | mk : ∀ z, (xs = [.str z]) → (z.length ≤ sizeLine) → (Q (.int z.length) H) → call_len_str_r xs H Q
theorem call_len_str : CallR X (.builtin "len") call_len_str_r := by
  intro pins s σ H xs us Q I r h
  obtain ⟨z, rfl, hz, q⟩ := h
  obtain ⟨u, rfl, t, rfl⟩ := vals1 r
  have hn := line63
  exact len_str (by omega) ⟨.int z.length, H, I.tok _, ⟨_, rfl⟩, q⟩
inductive call_list_of_r (K : PySem.W.Frag) (xs : List V) (H : Hp) (Q : VK) : Prop
  | mk : ∀ p ys, (xs = [.ref p]) → ((SqL K H p ys ∨ SqT K H p ys)) → (∀ l, H l = none → Q (.ref l) (upd H l (.lst ys))) → call_list_of_r K xs H Q
theorem call_list_of : CallR X (.type "list") (call_list_of_r X.K) := by
  intro pins s σ H xs us Q I r h
  obtain ⟨p, ys, rfl, hq, q⟩ := h
  obtain ⟨u, rfl, rx⟩ := vals1 r
  cases rx
  have fin : ∀ (its : List Value), Vals ys its → ys.length ≤ sizeLine → ∀ (h' : Heap) (c' : Nat), (∀ b o', s.heap.get? b = some o' → h'.get? b = some o') →
      h'.get? s.heap.objs.size = some { cls := .type "list", dict := none, data := .seq its.toArray c', slots := #[] } → EP X pins σ Q (.ref s.heap.objs.size) { s with heap := h' } := fun its r' hz h' c' kp e =>
    ⟨.ref s.heap.objs.size, _, I.laid (t' := s.toks) kp (Nat.le_refl _) (show ObjOk X.prog X.w _ h' _ (.lst ys) from ⟨hz, its, c', r', e⟩), rfl, q _ (I.hok.fresh (Nat.le_refl _))⟩
  rcases hq with hq | hq
  · obtain ⟨its, r', pl, hz⟩ := I.list hq
    have hlen := r'.length
    obtain ⟨o, ho, hc, n, hd⟩ := pl.isList
    exact call_list_seq p (.inl rfl) ho hc hd (fun h' c' kp e => fin its r' hz h' c' kp e) (by simp only [List.size_toArray] <;> omega)
  · obtain ⟨its, r', pl, hz⟩ := I.tuple hq
    have hlen := r'.length
    obtain ⟨o, ho, hc, n, hd⟩ := pl
    exact call_list_seq p (.inr rfl) ho hc hd (fun h' c' kp e => fin its r' hz h' c' kp e) (by simp only [List.size_toArray] <;> omega)

noncomputable def tyV (K : PySem.W.Frag) (T : String) (x : V) (H : Hp) : Prop := match x with
  | .str _ => T = "str"
  | .int _ => T = "int"
  | .ref p => (T = "list" ∧ ∃ xs, SqL K H p xs) ∨ (T = "tuple" ∧ ((∃ o, K.lookup p = some o ∧ o.cls = .type "tuple" ∧ o.dict = none) ∨ ∃ xs, H p = some (.tup xs))) ∨
      (T = "dict" ∧ ((∃ kvs, H p = some (.dK kvs)) ∨ ∃ kvs, H p = some (.dT kvs))) ∨ (T = "set" ∧ ∃ S n, H p = some (.set S n))
  | _ => False
theorem tyV_is {pins : List (Addr × Obj)} {σ : St} {H : Hp} {s : Shared} {T : String} {x : V} {v : Value} (I : Inv X pins σ H s) (r : RelV x v) (ty : tyV X.K T x H) :
    s.TypeIs v T ∧ ∀ a, v = .ref a → ∃ ob, s.heap.get? a = some ob ∧ ob.dict = none := by
  cases x with
  | str z =>
    obtain ⟨t, rfl⟩ := r
    cases (show T = "str" from ty)
    exact ⟨typeIs_str s z t, fun _ e => nomatch e⟩
  | int i =>
    obtain ⟨t, rfl⟩ := r
    cases (show T = "int" from ty)
    exact ⟨typeIs_int s i t, fun _ e => nomatch e⟩
  | ref p =>
    cases r
    rcases ty with ⟨rfl, xs, hq⟩ | ⟨rfl, ⟨o, hk, hc, hd⟩ | ⟨xs, hk⟩⟩ | ⟨rfl, hk⟩ | ⟨rfl, S, n, hk⟩
    · obtain ⟨its, _, pl, _⟩ := I.list hq
      refine ⟨pl.isList.typeIs, fun a e => ?_⟩
      cases e
      obtain ⟨o, n, e, c, hd, _⟩ := pl
      exact ⟨o, e, hd⟩
    · refine ⟨⟨o, I.kIn p o hk, hc⟩, fun a e => ?_⟩
      cases e
      exact ⟨o, I.kIn _ o hk, hd⟩
    · obtain ⟨_, _, _, ⟨o, e, hc, _⟩, hn⟩ := I.hok p _ hk
      refine ⟨⟨o, e, hc⟩, fun a e => ?_⟩
      cases e
      exact hn
    · have z : ∃ o, s.heap.get? p = some o ∧ o.ExactDict := by
        rcases hk with ⟨kvs, hk⟩ | ⟨kvs, hk⟩
        · obtain ⟨_, _, _, _, o, _, _, e, ex, _⟩ := I.hok p _ hk
          exact ⟨o, e, ex⟩
        · obtain ⟨_, _, _, _, o, _, _, e, ex, _⟩ := I.hok p _ hk
          exact ⟨o, e, ex⟩
      obtain ⟨o, e, ex⟩ := z
      refine ⟨⟨o, e, ex.1⟩, fun a e2 => ?_⟩
      cases e2
      exact ⟨o, e, ex.2.1⟩
    · obtain ⟨o, _, _, _, e, ex, _⟩ := I.hok p _ hk
      refine ⟨⟨o, e, ex.1⟩, fun a e2 => ?_⟩
      cases e2
      exact ⟨o, e, ex.2.1⟩
  | _ => exact False.elim ty
noncomputable def tBM0_k1 (K : PySem.W.Frag) (T : String) (r : V → List V → Hp → VK → Prop) (Q : VK) : V → Hp → Prop := fun x H1 => tyV K T x H1 ∧ r x [] H1 Q
noncomputable def tBM0 (K : PySem.W.Frag) (T : String) (r : V → List V → Hp → VK → Prop) (to : TE) : TE := fun σ H Q => to σ H (tBM0_k1 K T r Q)
noncomputable def tBM_k1 (r : V → List V → Hp → VK → Prop) (Q : VK) (x : V) : List V → Hp → Prop := fun xs H2 => r x xs H2 Q
noncomputable def tBM_k2 (K : PySem.W.Frag) (T : String) (r : V → List V → Hp → VK → Prop) (t : TA) (σ : St) (Q : VK) : V → Hp → Prop := fun x H1 => tyV K T x H1 ∧ t σ H1 (tBM_k1 r Q x)
noncomputable def tBM (K : PySem.W.Frag) (T : String) (r : V → List V → Hp → VK → Prop) (to : TE) (t : TA) : TE := fun σ H Q => to σ H (tBM_k2 K T r t σ Q)
variable {o e : Expr} {es : List Expr} {to : TE} {t : TA} {name : Str} {apos cpos : Pos} {T id : String} {r : V → List V → Hp → VK → Prop}
theorem pe_bm0 (pa : PlainAttrs T) (slot : Slot T name id) (hty : typeOf (.builtin id) = pure (.type "method_descriptor")) (hm : MtR X id r) (ho : PE X o to)
    (hbase : attributeBase o name X.env (eval o X.env) = eval o X.env := by rfl) (hline : (apos.endLine == cpos.line) = true := by rfl) : PE X (.Call (.Attribute o name apos) [] [] cpos) (tBM0 X.K T r to) := by
  intro pins s σ H Q I h
  refine wpAny_Call_method0_late hbase hline (thn (ho pins s σ H _ I h) fun v s1 zq65 => ?_)
  obtain ⟨x, H1, I1, r1, ty, q1⟩ := zq65
  obtain ⟨h1, h2⟩ := tyV_is I1 r1 ty
  exact ⟨T, id, pa, slot, hty, h1, h2, Calls.callWith_builtin rfl (PySem.evalArgs_none (hm pins s1 σ H1 x [] v [] Q I1 r1 .nil q1))⟩
theorem pe_bm (pa : PlainAttrs T) (slot : Slot T name id) (hty : typeOf (.builtin id) = pure (.type "method_descriptor")) (hm : MtR X id r) (ho : PE X o to) (ha : PA X (e :: es) t)
    (hbase : attributeBase o name X.env (eval o X.env) = eval o X.env := by rfl)
    (hfew : ((backTo cpos (starEach (e :: es) X.env)).all (fun x => !x.1) && (backToKw cpos (keywordEach [] X.env)).all (fun x => x.1.isSome)
      && decide ((e :: es).length + ([] : List Keyword).length + (if ([] : List Keyword).isEmpty then 0 else 1) < 30)) = true := by rfl)
    (hline : (apos.endLine == cpos.line) = true := by rfl) (hs : starEach (e :: es) X.env = (false, eval e X.env) :: starEach es X.env := by rfl) (hplain : (backTo cpos (starEach es X.env)).any (·.1) = false := by rfl) :
    PE X (.Call (.Attribute o name apos) (e :: es) [] cpos) (tBM X.K T r to t) := by
  intro pins s σ H Q I h
  refine wpAny_Call_method_late hbase hfew hline rfl (thn (ho pins s σ H _ I h) fun v s1 zq66 => ?_)
  obtain ⟨x, H1, I1, r1, ty, q1⟩ := zq66
  obtain ⟨h1, h2⟩ := tyV_is I1 r1 ty
  refine ⟨T, id, pa, slot, hty, h1, h2, ?_⟩
  have hA := ha cpos pins s1 σ H1 _ I1 q1
  rw [hs] at hA ⊢
  refine Calls.callWith_builtin (by show (false || (backTo cpos (starEach es X.env)).any (·.1)) = false; rw [hplain] <;> rfl) (Calls.evalArgs_plain ?_)
  exact thn hA fun us s2 zq67 => (by obtain ⟨vs, H2, I2, r2, q2⟩ := zq67; exact hm pins s2 σ H2 x vs v us Q I2 r1 r2 q2)
/- xs.append(e), list.index on a module's tuple .. are MtR facts of 06m -/
end
end L2

namespace L2
open PySem PySem.Spec PyProof.Rows

noncomputable def MtM (X : Cx) (id : String) (r : V → List V → Hp → VK → Prop) : Prop :=
  ∀ (pins : List (Addr × Obj)) (s : Shared) (σ : St) (H : Hp) (x : V) (xs : List V) (v : Value) (us : List Value) (Q : VK), Inv X pins σ H s → RelV x v → Vals xs us → r x xs H Q →
    wpAny (model X.prog X.w) X.A (call (.builtin id) (v :: us)) (EP X pins σ Q) X.xe s

theorem Vals.one : ∀ {x : V} {us : List Value}, Vals [x] us → ∃ u, us = [u] ∧ RelV x u
  | _, _, .cons r .nil => ⟨_, rfl, r⟩
theorem Vals.eraseIdx : ∀ {xs : List V} {us : List Value} (i : Nat), Vals xs us → Vals (xs.eraseIdx i) (us.eraseIdx i)
  | _, _, _, .nil => .nil
  | _, _, 0, .cons _ t => t
  | _, _, i + 1, .cons r t => .cons r (Vals.eraseIdx i t)
theorem Vals.rep {xs : List V} {us : List Value} (h : Vals xs us) : ∀ k : Nat, Vals (List.replicate k xs).flatten (List.replicate k us).flatten
  | 0 => .nil
  | k + 1 => by
    rw [List.replicate_succ, List.replicate_succ, List.flatten_cons, List.flatten_cons]
    exact Vals.append h (Vals.rep h k)
theorem len_erase {α : Type} : ∀ (l : List α) (i : Nat), (l.eraseIdx i).length ≤ l.length
  | [], _ => Nat.le_refl _
  | _ :: _, 0 => Nat.le_succ _
  | _ :: r, i + 1 => Nat.succ_le_succ (len_erase r i)
theorem foldl_rep (its : List Value) : ∀ (k : Nat) (acc : List Value),
    List.foldl (fun x1 x2 => x1 ++ x2) acc.toArray (List.replicate k its.toArray) = (acc ++ (List.replicate k its).flatten).toArray
  | 0, acc => by simp
  | k + 1, acc => by
    have e : acc.toArray ++ its.toArray = (acc ++ its).toArray := by simp
    have e2 : (acc ++ its) ++ (List.replicate k its).flatten = acc ++ (List.replicate (k + 1) its).flatten := by
      rw [List.replicate_succ, List.flatten_cons, List.append_assoc]
    rw [← e2, ← foldl_rep its k (acc ++ its), ← e, List.replicate_succ, List.foldl_cons]

section
variable {X : Cx} {pins : List (Addr × Obj)} {σ : St} {H : Hp} {s : Shared} {l b : Addr} {xs ys zs : List V}

theorem Inv.lset {its its' : List Value} {n : Nat} {f : Array Value → Array Value} {t' : Nat} (I : Inv X pins σ H s) (hH : H l = some (.lst xs))
    (e : s.heap.get? l = some { cls := .type "list", data := .seq its.toArray n }) (hf : f its.toArray = its'.toArray) (hv : Vals ys its') (hz : ys.length ≤ sizeLine) :
    InvW X pins σ (upd H l (.lst ys)) { s with heap := s.heap.update l (Obj.mapSeq f), toks := t' } := by
  have q := PySem.IsL.update e f
  rw [hf] at q
  refine I.write (x := l) (e := l) (by rw [hH]; exact trivial) (.inl rfl) (fun b' u hb hu => (Heap.get?_update_other s.heap (Obj.mapSeq f) (Ne.symm hb)).trans hu) ⟨_, q⟩ ?_
  exact ⟨hz, its', _, hv, q⟩
theorem Inv.lnew {its : List Value} {t' : Nat} (I : Inv X pins σ H s) (hv : Vals ys its) (hz : ys.length ≤ sizeLine) :
    InvW X pins σ (upd H s.heap.objs.size (.lst ys)) { s with heap := s.heap.push { cls := .type "list", data := .seq its.toArray }, toks := t' } :=
  I.laid (fun _ _ q => Heap.get?_push_of_some _ q) (Nat.le_refl _) ⟨hz, its, 0, hv, Heap.get?_push_size _ rfl⟩
theorem Inv.fresh (I : Inv X pins σ H s) : H s.heap.objs.size = none := I.hok.fresh (Nat.le_refl _)
theorem Inv.lstM (I : Inv X pins σ H s) (hH : H l = some (.lst xs)) : xs.length ≤ sizeLine ∧ ∃ (its : List Value) (n : Nat), Vals xs its ∧ xs.length = its.length ∧ s.heap.get? l = some { cls := .type "list", data := .seq its.toArray n } := by
  obtain ⟨z, its, n, r, e⟩ := I.hok l _ hH
  exact ⟨z, its, n, r, r.length, e⟩

theorem notLongL {n : Nat} (h : n ≤ sizeLine) : Builtin.List.listTooLong n = false := by
  unfold Builtin.List.listTooLong
  exact decide_eq_false (by omega)
end

section
variable {X : Cx}


inductive rExtend (x : V) (vs : List V) (H : Hp) (Q : VK) : Prop
  | mk : ∀ l b xs zs, (x = .ref l) → (vs = [.ref b]) → (H l = some (.lst xs)) → (H b = some (.lst zs)) → (xs.length + zs.length ≤ sizeLine) → (Q .non (upd H l (.lst (xs ++ zs)))) → rExtend x vs H Q
theorem mt_extend : MtM X "list.extend" rExtend := by
  intro pins s σ H x vs v us Q I rx rv h
  obtain ⟨l, b, xs, zs, rfl, rfl, hH, hB, hz, q⟩ := h
  cases rx
  obtain ⟨u, rfl, ru⟩ := rv.one
  cases ru
  obtain ⟨z, its, n, r, hl, e⟩ := I.lstM hH
  obtain ⟨z2, its2, n2, r2, hl2, e2⟩ := I.lstM hB
  have hsz : its.toArray.size + its2.toArray.size ≤ sizeLine := by rw [List.size_toArray, List.size_toArray]; omega
  have hlong : ¬ (!its.toArray.isEmpty && Builtin.List.listTooLong (its.toArray.size + its2.toArray.size)) = true := by
    rw [notLongL hsz, Bool.and_false]
    exact Bool.false_ne_true
  refine call_meets F.slot_list_extend ⟨_, e, rfl⟩ F.entry_list_extend (F.args_list_extend_2 _ _)
    (AutoSeq1.list_extend_list_list_0 l its.toArray n b its2.toArray n2 hlong (by rw [List.size_toArray]; omega) (by omega)) ⟨e, e2, ?_⟩
  refine ⟨.non, _, I.lset (its' := its ++ its2) hH e (by simp) (r.append r2) ?_, rfl, q⟩
  rw [List.length_append]
  omega


inductive rPopAt (x : V) (vs : List V) (H : Hp) (Q : VK) : Prop
  | mk : ∀ l xs i k y, (x = .ref l) → (vs = [.int i]) → (H l = some (.lst xs)) → (-(2 ^ 63) ≤ i) → (i < 2 ^ 63) → (seqIndex? i xs.length = some k) → (xs[k]? = some y) → (Q y (upd H l (.lst (xs.eraseIdx k)))) → rPopAt x vs H Q
theorem mt_popAt : MtM X "list.pop" rPopAt := by
  intro pins s σ H x vs v us Q I rx rv h
  obtain ⟨l, xs, i, k, y, rfl, rfl, hH, h1, h2, hk, hy, q⟩ := h
  cases rx
  obtain ⟨u, rfl, ru⟩ := rv.one
  obtain ⟨t, rfl⟩ := ru
  obtain ⟨z, its, n, r, hl, e⟩ := I.lstM hH
  obtain ⟨w, hw, rw'⟩ := r.get hy
  refine call_meets F.slot_list_pop ⟨_, e, rfl⟩ F.entry_list_pop (F.args_list_pop_2 _ _)
    (MeetsSeq.list_pop_at l its.toArray n i t k w (fitsIndex_both h1 h2) (by rw [List.size_toArray, ← hl]; exact hk) (by rw [← Array.getElem?_toList]; exact hw) (by rw [List.size_toArray]; omega)) ⟨e, ?_⟩
  refine ⟨y, _, I.lset (its' := its.eraseIdx k) hH e ?_ (r.eraseIdx k) ?_, rw', q⟩
  · show its.toArray.eraseIdxIfInBounds k = (its.eraseIdx k).toArray
    rw [List.eraseIdxIfInBounds_toArray]
  · have := len_erase xs k
    omega



inductive rCat (x : V) (y : V) (H : Hp) (Q : VK) : Prop
  | mk : ∀ l b xs zs, (x = .ref l) → (y = .ref b) → (H l = some (.lst xs)) → (H b = some (.lst zs)) → (xs.length + zs.length ≤ sizeLine) → (∀ p, H p = none → Q (.ref p) (upd H p (.lst (xs ++ zs)))) → rCat x y H Q
theorem op_cat : OpR X (binaryOp .Add) rCat := by
  intro pins s σ H x y v u Q I rx ry h
  obtain ⟨l, b, xs, zs, rfl, rfl, hH, hB, hz, q⟩ := h
  cases rx
  cases ry
  obtain ⟨z, its, n, r, hl, e⟩ := I.lstM hH
  obtain ⟨z2, its2, n2, r2, hl2, e2⟩ := I.lstM hB
  refine PySem.P.add_list e e2 ?_ (by rw [List.size_toArray, List.size_toArray]; omega)
  have ea : its.toArray ++ its2.toArray = (its ++ its2).toArray := by simp
  rw [ea]
  exact ⟨.ref _, _, I.lnew (t' := s.toks) (r.append r2) (by rw [List.length_append]; omega), rfl, q _ I.fresh⟩
inductive rRep (x : V) (y : V) (H : Hp) (Q : VK) : Prop
  | mk : ∀ l k xs, (x = .ref l) → (y = .int k) → (H l = some (.lst xs)) → (-(2 ^ 63) ≤ k) → (k < 2 ^ 63) → (xs.length * k.toNat ≤ sizeLine) → (∀ p, H p = none → Q (.ref p) (upd H p (.lst (List.replicate k.toNat xs).flatten))) → rRep x y H Q
theorem len_rep {α : Type} (xs : List α) (k : Nat) : (List.replicate k xs).flatten.length = k * xs.length := by
  induction k with
  | zero => simp
  | succ k ih => rw [List.replicate_succ, List.flatten_cons, List.length_append, ih, Nat.succ_mul, Nat.add_comm]
theorem op_rep : OpR X (binaryOp .Mult) rRep := by
  intro pins s σ H x y v u Q I rx ry h
  obtain ⟨l, k, xs, rfl, rfl, hH, h1, h2, hz, q⟩ := h
  cases rx
  obtain ⟨t, rfl⟩ := ry
  obtain ⟨z, its, n, r, hl, e⟩ := I.lstM hH
  have hlen : its.toArray.size * k.toNat ≤ sizeLine := by rw [List.size_toArray, ← hl]; exact hz
  have hcap : ¬ its.toArray.size * k.toNat > (2 ^ 63 - 1) / 8 := by
    have : (sizeLine : Nat) ≤ (2 ^ 63 - 1) / 8 := by decide
    omega
  have hfit : ¬ (!Builtin.List.listFitsIndex k) = true := by
    rw [fitsIndex_both h1 h2]
    exact Bool.false_ne_true
  have hlong : ¬ Builtin.List.listTooLong (its.toArray.size * k.toNat) = true := by
    rw [notLongL hlen]
    exact Bool.false_ne_true
  have hnew : List.foldl (fun x1 x2 => x1 ++ x2) #[] (List.replicate (if its.toArray.isEmpty = true then 0 else k.toNat) its.toArray) = (List.replicate k.toNat its).flatten.toArray := by
    have f0 : ∀ m : Nat, List.foldl (fun x1 x2 => x1 ++ x2) #[] (List.replicate m its.toArray) = (List.replicate m its).flatten.toArray := fun m => by
      have := foldl_rep its m []
      rw [List.nil_append] at this
      exact this
    rw [f0]
    cases its with
    | nil => simp
    | cons a r' => rw [if_neg (by simp)]
  refine wpAny_binaryOp_repeat_ref (T := "list") (U := "int") (by decide) ⟨_, e, rfl⟩ (fun s' => typeIs_int s' k t) noFill_list_mul F.fills_int_mul F.slot_int_rmul repeat_list F.slot_int_index.lookup
    (call_meets F.slot_int_rmul (typeIs_int s k t) F.entry_int_rmul (F.args_int_rmul_2 _ _) (int___rmul___int_list k t l its.toArray n)
      ⟨e, rfl, ⟨_, e, rfl⟩, call_meets F.slot_list_mul ⟨_, e, rfl⟩ F.entry_list_mul (F.args_list_mul_2 _ _) (AutoListH.list___mul___list_int_3 l its.toArray n k t hfit hcap hlong) ⟨e, ?_⟩⟩)
  rw [hnew]
  exact ⟨.ref _, _, I.lnew (t' := s.toks) (r.rep k.toNat) (by rw [len_rep, Nat.mul_comm]; exact hz), rfl, q _ I.fresh⟩

end

section
variable {prog : Program} {w : World} {A : Around} {E : Value → Shared → Prop} {s : Shared}
end

section
variable {X : Cx}
end
end L2

namespace L2
open PySem PySem.Spec PyProof.Rows

section
variable {κ : Type} [DecidableEq κ]
noncomputable def valV (kvs : List (κ × V)) (k : κ) : Option V := (kvs.find? fun kv => decide (kv.1 = k)).map (·.2)
noncomputable def putK (kvs : List (κ × V)) (k : κ) (v : V) : List (κ × V) :=
  if (kvs.any fun kv => decide (kv.1 = k)) = true then kvs.map (fun kv => if kv.1 = k then (kv.1, v) else kv) else kvs ++ [(k, v)]

theorem valV_pos {p : κ × V} {r : List (κ × V)} {k : κ} (e : p.1 = k) : valV (p :: r) k = some p.2 := by simp [valV, List.find?_cons, e]
theorem valV_neg {p : κ × V} {r : List (κ × V)} {k : κ} (e : ¬ p.1 = k) : valV (p :: r) k = valV r k := by simp [valV, List.find?_cons, e]
theorem valV_any (k : κ) : ∀ kvs : List (κ × V), (kvs.any fun kv => decide (kv.1 = k)) = (valV kvs k).isSome
  | [] => rfl
  | p :: r => by
    rw [List.any_cons]
    by_cases e : p.1 = k
    · simp only [valV_pos e, decide_eq_true e, Bool.true_or, Option.isSome_some]
    · rw [valV_neg e, decide_eq_false e, Bool.false_or]; exact valV_any k r
theorem length_putK (kvs : List (κ × V)) (k : κ) (v : V) : (putK kvs k v).length ≤ kvs.length + 1 := by
  unfold putK
  split
  · rw [List.length_map]; omega
  · rw [List.length_append, List.length_cons, List.length_nil]; omega

theorem RelO.isSome_eq {o : Option V} {u : Option Value} (r : RelO o u) : o.isSome = u.isSome := by
  cases o with
  | none => cases u with
    | none => rfl
    | some _ => exact (show False from r).elim
  | some _ => cases u with
    | none => exact (show False from r).elim
    | some _ => rfl

theorem KV.val {kvs : List (κ × V)} {vs : List (κ × Value)} (r : KV kvs vs) (k : κ) : RelO (valV kvs k) (valueAt vs k) := by
  unfold KV at r
  induction r with
  | nil => exact True.intro
  | @cons p q ps qs h t ih =>
    obtain ⟨h1, h2⟩ := h
    by_cases e : p.1 = k
    · have e' : q.1 = k := h1.symm.trans e
      have b : valueAt (q :: qs) k = some q.2 := by simp [valueAt, List.find?_cons, e']
      rw [valV_pos e, b]; exact h2
    · have e' : ¬ q.1 = k := fun z => e (h1.trans z)
      have b : valueAt (q :: qs) k = valueAt qs k := by simp [valueAt, List.find?_cons, e']
      rw [valV_neg e, b]; exact ih
theorem KV.any {kvs : List (κ × V)} {vs : List (κ × Value)} (r : KV kvs vs) (k : κ) : (kvs.any fun kv => decide (kv.1 = k)) = vs.any fun kv => decide (kv.1 = k) := by
  unfold KV at r
  induction r with
  | nil => rfl
  | cons h t ih => rw [List.any_cons, List.any_cons, ih, h.1]
theorem KV.repl {kvs : List (κ × V)} {vs : List (κ × Value)} (r : KV kvs vs) (k : κ) {y : V} {u : Value} (ry : RelV y u) :
    KV (kvs.map fun kv => if kv.1 = k then (kv.1, y) else kv) (vs.map fun kv => if kv.1 = k then (kv.1, u) else kv) := by
  unfold KV at r ⊢
  induction r with
  | nil => exact .nil
  | @cons p q ps qs h t ih =>
    rw [List.map_cons, List.map_cons]
    refine .cons ?_ ih
    obtain ⟨h1, h2⟩ := h
    by_cases e : p.1 = k
    · rw [if_pos e, if_pos (h1.symm.trans e)]; exact ⟨h1, ry⟩
    · rw [if_neg e, if_neg (fun z => e (h1.trans z))]; exact ⟨h1, h2⟩
theorem KV.put {kvs : List (κ × V)} {vs : List (κ × Value)} (r : KV kvs vs) (k : κ) {y : V} {u : Value} (ry : RelV y u) : KV (putK kvs k y) (stored vs k u) := by
  unfold putK stored
  rw [r.any k]
  by_cases e : (vs.any fun kv => decide (kv.1 = k)) = true
  · rw [if_pos e, if_pos e]; exact r.repl k ry
  · rw [if_neg e, if_neg e]; exact Paired.snoc r ⟨rfl, ry⟩
theorem KV.length {kvs : List (κ × V)} {vs : List (κ × Value)} (r : KV kvs vs) : kvs.length = vs.length := Paired.length r
end


theorem kV_is {P : Program} {w : World} {k : Key} {u : Value} (r : RelV (kV k) u) : (mixKind P w).is k u = true := by
  cases k with
  | inl i => obtain ⟨t, e⟩ := (show ∃ t, u = Value.int i t from r); subst e; exact mixKind_int P w i t
  | inr x => obtain ⟨t, e⟩ := (show ∃ t, u = Value.str x t from r); subst e; exact mixKind_str P w x t
theorem items_are {P : Program} {w : World} : ∀ {ks : List Key} {us : List Value}, Vals (ks.map kV) us → ItemsAre (mixKind P w) ks us
  | [], _, r => by rw [List.map_nil] at r; cases r; exact .nil
  | k :: ks, _, r => by
    rw [List.map_cons] at r
    cases r with
    | cons h t => exact .cons (kV_is h) (items_are t)

noncomputable abbrev KT (H : Hp) : List (List Key × V) → List (List Key × Addr × Value) → Prop := Paired fun p q => p.1 = q.1 ∧ H q.2.1 = some (.tup (p.1.map kV)) ∧ RelV p.2 q.2.2
theorem KT.val {H : Hp} {kvs : List (List Key × V)} {xs : List (List Key × Addr × Value)} (r : KT H kvs xs) (k : List Key) : RelO (valV kvs k) ((atKey xs k).map (·.2)) := by
  induction r with
  | nil => exact True.intro
  | @cons p q ps qs h t ih =>
    obtain ⟨h1, _, h2⟩ := h
    by_cases e : p.1 = k
    · have e' : q.1 = k := h1.symm.trans e
      have b : atKey (q :: qs) k = some q.2 := by simp [atKey, List.find?_cons, e']
      rw [valV_pos e, b]; exact h2
    · have e' : ¬ q.1 = k := fun z => e (h1.trans z)
      have b : atKey (q :: qs) k = atKey qs k := by simp [atKey, List.find?_cons, e']
      rw [valV_neg e, b]; exact ih
theorem KT.repl {H : Hp} {kvs : List (List Key × V)} {xs : List (List Key × Addr × Value)} (r : KT H kvs xs) (k : List Key) {y : V} {u : Value} (ry : RelV y u) :
    KT H (kvs.map fun kv => if kv.1 = k then (kv.1, y) else kv) (xs.map (putAt k u)) := by
  induction r with
  | nil => exact .nil
  | @cons p q ps qs h t ih =>
    rw [List.map_cons, List.map_cons]
    refine .cons ?_ ih
    obtain ⟨h1, h2, h3⟩ := h
    unfold putAt
    by_cases e : p.1 = k
    · rw [if_pos e, if_pos (h1.symm.trans e)]; exact ⟨h1, h2, ry⟩
    · rw [if_neg e, if_neg (fun z => e (h1.trans z))]; exact ⟨h1, h2, h3⟩
theorem KT.put {H : Hp} {kvs : List (List Key × V)} {xs : List (List Key × Addr × Value)} (r : KT H kvs xs) (k : List Key) {b : Addr} {y : V} {u : Value} (hb : H b = some (.tup (k.map kV))) (ry : RelV y u) :
    KT H (putK kvs k y) (storedH xs k b u) := by
  have e : (kvs.any fun kv => decide (kv.1 = k)) = (atKey xs k).isSome := by
    rw [valV_any, (r.val k).isSome_eq, Option.isSome_map]
  unfold putK storedH
  rw [e]
  by_cases q : (atKey xs k).isSome = true
  · rw [if_pos q, if_pos q]; exact r.repl k ry
  · rw [if_neg q, if_neg q]; exact Paired.snoc r ⟨rfl, hb, ry⟩
theorem KT.keeps {H H' : Hp} {kvs : List (List Key × V)} {xs : List (List Key × Addr × Value)} (r : KT H kvs xs) (ht : ∀ b ys, H b = some (.tup ys) → H' b = some (.tup ys)) : KT H' kvs xs :=
  Paired.mapP r fun _ _ z => ⟨z.1, ht _ _ z.2.1, z.2.2⟩

section
variable {P : Program} {w : World} {H : Hp} {h : Heap} {a : Addr}
theorem rd_of {u : HO} (ok : HOk P w H h) (e : Rd H a u) : ObjOk P w H h a u := e.ok ok
theorem dk_rd {kvs : List (Key × V)} (ok : HOk P w H h) (e : Rd H a (.dK kvs)) : kvs.length ≤ sizeLine ∧ (a == sysModules) = false ∧ ∃ vs, KV kvs vs ∧ h.DictOf (mixKind P w) a vs :=
  show ObjOk P w H h a (.dK kvs) from rd_of ok e
theorem dk_of {kvs : List (Key × V)} (ok : HOk P w H h) (e : H a = some (.dK kvs)) : kvs.length ≤ sizeLine ∧ (a == sysModules) = false ∧ ∃ vs, KV kvs vs ∧ h.DictOf (mixKind P w) a vs := dk_rd ok (.inl e)
theorem key_of {ks : List Key} (ok : HOk P w H h) (e : H a = some (.tup (ks.map kV))) : (tupleKind (mixKind P w)).is h ks a := by
  obtain ⟨_, its, r, ⟨o, h1, h2, n, h3⟩, _⟩ := (show ObjOk P w H h a (.tup (ks.map kV)) from ok a _ e)
  exact ⟨o, its.toArray, n, h1, h2, h3, by simpa using items_are r⟩
theorem dt_rd {kvs : List (List Key × V)} (ok : HOk P w H h) (e : Rd H a (.dT kvs)) : kvs.length ≤ sizeLine ∧ (a == sysModules) = false ∧
    ∃ xs, KT H kvs xs ∧ h.DictOfH (tupleKind (mixKind P w)) a xs := by
  obtain ⟨z, y, xs, r, o, es, ep, h1, h2, h3, h4, h5⟩ := (show ObjOk P w H h a (.dT kvs) from rd_of ok e)
  refine ⟨z, y, xs, r, o, es, ep, h1, h2, h3, h4, fun x hx => ?_, h5⟩
  have all : ∀ {l : List (List Key × V)} {m : List (List Key × Addr × Value)}, KT H l m → ∀ x ∈ m, (tupleKind (mixKind P w)).is h x.1 x.2.1 := by
    intro l m q
    induction q with
    | nil => intro x hx; exact nomatch hx
    | @cons p q ps qs hq t ih =>
      intro x hx
      rcases List.mem_cons.mp hx with e | hx
      · subst e
        exact key_of ok (by rw [← hq.1]; exact hq.2.1)
      · exact ih x hx
  exact all r x hx
theorem dt_of {kvs : List (List Key × V)} (ok : HOk P w H h) (e : H a = some (.dT kvs)) : kvs.length ≤ sizeLine ∧ (a == sysModules) = false ∧
    ∃ xs, KT H kvs xs ∧ h.DictOfH (tupleKind (mixKind P w)) a xs := dt_rd ok (.inl e)
end

noncomputable def DGet (H : Hp) (a : Addr) (y : V) (r : Option V) : Prop :=
  (∃ kvs k, Rd H a (.dK kvs) ∧ y = kV k ∧ r = valV kvs k) ∨ ∃ kvs k b, Rd H a (.dT kvs) ∧ y = .ref b ∧ H b = some (.tup (k.map kV)) ∧ r = valV kvs k
noncomputable def DPut (H : Hp) (a : Addr) (y v : V) (H' : Hp) : Prop :=
  (∃ kvs k, H a = some (.dK kvs) ∧ y = kV k ∧ kvs.length < sizeLine ∧ H' = upd H a (.dK (putK kvs k v))) ∨
  ∃ kvs k b, H a = some (.dT kvs) ∧ y = .ref b ∧ H b = some (.tup (k.map kV)) ∧ kvs.length < sizeLine ∧ H' = upd H a (.dT (putK kvs k v))
theorem DGet.k {H : Hp} {a : Addr} {kvs : List (Key × V)} {k : Key} (e : H a = some (.dK kvs)) : DGet H a (kV k) (valV kvs k) := .inl ⟨kvs, k, .inl e, rfl, rfl⟩
theorem DPut.k {H : Hp} {a : Addr} {kvs : List (Key × V)} {k : Key} {v : V} (e : H a = some (.dK kvs)) (hl : kvs.length < sizeLine) : DPut H a (kV k) v (upd H a (.dK (putK kvs k v))) := .inl ⟨kvs, k, e, rfl, hl, rfl⟩


section
variable {X : Cx} {pins : List (Addr × Obj)} {σ : St} {H : Hp} {s : Shared} {a : Addr} {y v : V} {u r : Value} {o : Option V} {A : Around} {E : Value → Shared → Prop}

theorem Inv.big (I : Inv X pins σ H s) : sysModules < s.heap.objs.size := by
  have h : mainGlobals < s.heap.objs.size := (I.mod.glob.keeps I.bk).lt
  exact Nat.lt_trans (by decide) h

theorem d_getItem {Q : Value → Shared → Prop} (hu : A.units + 1 < cLine) (I : Inv X pins σ H s) (g : DGet H a y (some v)) (ry : RelV y u) (h : ∀ w' s', InvW X pins σ H s' → RelV v w' → Q w' s') :
    wpAny (model X.prog X.w) A (getItem (.ref a) u) Q E s := by
  rcases g with ⟨kvs, k, e, ey, l⟩ | ⟨kvs, k, b, e, ey, eb, l⟩
  · subst ey
    obtain ⟨z, hd, vs, rel, dd⟩ := dk_rd I.hok e
    obtain ⟨w', hw, rw'⟩ := RelO.some_of (v := v) (o := valueAt vs k) (by rw [l]; exact rel.val k)
    exact wpAny_getItem_of (kV_is ry) dd.mapOf hw (h w' _ (I.tok _) rw')
  · subst ey
    cases (show u = Value.ref b from ry)
    obtain ⟨z, hd, xs, rel, dd⟩ := dt_rd I.hok e
    obtain ⟨w', hw, rw'⟩ := RelO.some_of (v := v) (o := (atKey xs k).map (·.2)) (by rw [l]; exact rel.val k)
    obtain ⟨p, hp, hp2⟩ := Option.map_eq_some_iff.mp hw
    refine wpAny_getItem_heap (tupleKind_room_in1 hu) (key_of I.hok eb) dd hp ?_
    rw [hp2]
    exact h w' _ (I.tok _) rw'
theorem d_write {h' : Heap} {t' : Nat} {ob : HO} (I : Inv X pins σ H s) (mu : Mut (H a)) (hs : Heap.SameBut a s.heap h') (he : ∃ q, h'.get? a = some q) (new : ObjOk X.prog X.w (upd H a ob) h' a ob) :
    InvW X pins σ (upd H a ob) { s with heap := h', toks := t' } :=
  I.write (x := a) (e := a) mu (.inl rfl) (fun b q hb z => (hs.2 b hb).trans z) he new
theorem dk_new {P : Program} {w : World} {H' : Hp} {h' : Heap} {kvs : List (Key × V)} {vs : List (Key × Value)} (z : kvs.length ≤ sizeLine) (hd : (a == sysModules) = false) (rel : KV kvs vs) (dd : h'.DictOf (mixKind P w) a vs) :
    ObjOk P w H' h' a (.dK kvs) := ⟨z, hd, vs, rel, dd⟩
theorem d_setItem {H' : Hp} {Q : Unit → Shared → Prop} (hu : A.units + 1 < cLine) (I : Inv X pins σ H s) (g : DPut H a y v H') (ry : RelV y u) (rv : RelV v r) (h : ∀ s', InvW X pins σ H' s' → Q () s') :
    wpAny (model X.prog X.w) A (setItem (.ref a) u r) Q E s := by
  rcases g with ⟨kvs, k, e, ey, l, eH⟩ | ⟨kvs, k, b, e, ey, eb, l, eH⟩
  · subst ey eH
    obtain ⟨z, hd, vs, rel, dd⟩ := dk_of I.hok e
    have hz : vs.length ≤ sizeLine := by rw [← rel.length]; exact z
    have hl : (putK kvs k v).length ≤ sizeLine := by have := length_putK kvs k v; omega
    refine wpAny_setItem_pairs (hsz := hz) (kV_is ry) dd fun h' dd' hs => h _ ?_
    have he : ∃ q, h'.get? a = some q := let ⟨q, _, _, hq, _⟩ := dd'; ⟨q, hq⟩
    exact d_write I (by rw [e]; exact True.intro) hs he (dk_new hl hd (rel.put k rv) dd')
  · subst ey eH
    cases (show u = Value.ref b from ry)
    obtain ⟨z, hd, xs, rel, dd⟩ := dt_of I.hok e
    have hz : xs.length ≤ sizeLine := by rw [← Paired.length rel]; exact z
    have hl : (putK kvs k v).length ≤ sizeLine := by have := length_putK kvs k v; omega
    refine wpAny_setItem_heap (hsz := hz) (tupleKind_room_in1 hu) (key_of I.hok eb) dd fun h' dd' hs => h _ ?_
    obtain ⟨q, es, ep, hq, h2, h3, h4, _, h5⟩ := dd'
    refine d_write I (by rw [e]; exact True.intro) hs ⟨q, hq⟩ ⟨hl, hd, _, (rel.put k eb rv).keeps fun c ys ec => ?_, q, es, ep, hq, h2, h3, h4, h5⟩
    rw [upd_ne (ne_of ec e (fun z => nomatch z))]
    exact ec
end

section
variable {X : Cx} {pins : List (Addr × Obj)} {σ : St} {H : Hp} {s : Shared} {a : Addr} {kvs : List (Key × V)} {k : Key} {u : Value} {A : Around} {E : Value → Shared → Prop}
end


noncomputable def NoSl (i : Expr) : Prop := ∀ ov iv, subscripted i false ov iv = operate [ov, iv] (getItem ov iv)
theorem subD_of {prog : Program} {w : World} {A : Around} {E : Value → Shared → Prop} {s : Shared} {env : Env} {value slice : Expr} {pos : Pos} {T id : String} {Q : Value → Shared → Prop}
    (hl : typeLookup (.type T) "__getitem__" = pure (some (.builtin id))) (hs : NoSl slice)
    (h : wpAny (model prog w) A (eval value env) (fun o s₁ => wpAny (model prog w) A (eval slice env) (fun i s₂ => s₂.TypeIs o T ∧ wpAny (model prog w) A (getItem o i) Q E s₂) E s₁) E s) :
    wpAny (model prog w) A (eval (.Subscript value slice pos) env) Q E s := by
  refine Subscript_ (wpAny_mono h (fun o s₁ h₁ => wpAny_mono h₁ (fun i s₂ h₂ => ?_) fun _ _ x => x) fun _ _ x => x)
  obtain ⟨hT, h₂⟩ := h₂
  unfold subscriptTail
  refine wpAny_bind ?_
  rw [getitemInPython_of_ne hT.not_modules]
  refine wpAny_bind (wpAny_specialOf hT hl ?_)
  have fin : wpAny (model prog w) A (subscripted slice false o i) (fun r s₃ => wpAny (model prog w) A (letTemporaryGo value o r >>= fun _ => pure r) Q E s₃) E s₂ := by
    rw [hs o i]
    exact wpAny_operating (wpAny_mono h₂ (fun r s₃ h₃ => wpAny_bind (wpAny_letTemporaryGo (wpAny_pure h₃))) fun _ _ x => x)
  first
    | exact wpAny_pure (wpAny_bind fin)
    | exact wpAny_bind (wpAny_pure (wpAny_bind fin))
    | exact wpAny_bind fin

theorem dict_typeIs {X : Cx} {pins : List (Addr × Obj)} {σ : St} {H : Hp} {s : Shared} {a : Addr} {y : V} {o : Option V} (I : Inv X pins σ H s) (g : DGet H a y o) : s.TypeIs (.ref a) "dict" := by
  rcases g with ⟨kvs, k, e, _, _⟩ | ⟨kvs, k, b, e, _, _, _⟩
  · obtain ⟨_, _, vs, _, dd⟩ := dk_rd I.hok e
    exact dd.typeIs
  · obtain ⟨_, _, xs, _, dd⟩ := dt_rd I.hok e
    exact dd.typeIs

noncomputable def tDGet (td ty : TE) : TE := fun σ H Q => td σ H fun x H1 => ty σ H1 fun y H2 => ∃ a v, x = .ref a ∧ DGet H2 a y (some v) ∧ Q v H2
noncomputable def sDPut (td ty tv : TE) : TS := fun D σ H => tv σ H fun v H1 => td σ H1 fun x H2 => ty σ H2 fun y H3 => ∃ a H4, x = .ref a ∧ DPut H3 a y v H4 ∧ D.nx σ H4

section
variable {X : Cx} {o i e value : Expr} {pos pos' tpos : Pos} {td ty tv : TE}
theorem pe_dget (hu : X.A.units + 1 < cLine) (ho : PE X o td) (hi : PE X i ty) (hs : NoSl i) : PE X (.Subscript o i pos) (tDGet td ty) := by
  intro pins s σ H Q I h
  refine subD_of PySem.F.slot_dict_getitem.lookup hs (thn (ho pins s σ H _ I h) fun u s1 ⟨x, H1, I1, rx, q1⟩ => thn (hi pins s1 σ H1 _ I1 q1) fun iv s2 zq68 => ?_)
  obtain ⟨y, H2, I2, ry, a, v, ex, g, q2⟩ := zq68
  subst ex
  obtain rfl : u = Value.ref a := rx
  exact ⟨dict_typeIs I2 g, d_getItem hu I2 g ry fun w' s3 I3 rw' => ⟨v, H2, I3, rw', q2⟩⟩
theorem ps_dput (hu : X.A.units + 1 < cLine) (ho : PE X o td) (hi : PE X i ty) (hv : PE X value tv) (hs : swapsWith value (some (.Subscript o i pos')) pos.line X.env = pure false) :
    PS X (.Assign [.Subscript o i pos'] value pos) (sDPut td ty tv) := by
  intro pins s σ H D I h
  refine wpAny_Assign_Subscript (thn (hv pins s σ H _ I h) fun r s1 ⟨v, H1, I1, rv, q1⟩ => thn (ho pins s1 σ H1 _ I1 q1) fun u s2 ⟨x, H2, I2, rx, q2⟩ => thn (hi pins s2 σ H2 _ I2 q2) fun iv s3 zq71 => ?_) hs
  obtain ⟨y, H3, I3, ry, a, H4, ex, g, q3⟩ := zq71
  subst ex
  obtain rfl : u = Value.ref a := rx
  exact d_setItem hu I3 g ry rv fun s4 I4 => ⟨σ, H4, I4, q3⟩
end


theorem dk_empty {P : Program} {w : World} {H : Hp} (h : Heap) (hb : sysModules < h.objs.size) : ObjOk P w H (h.push { cls := .type "dict", data := .dict #[] }) h.objs.size (.dK []) :=
  ⟨Nat.zero_le _, beq_eq_false_iff_ne.mpr (Ne.symm (Nat.ne_of_lt hb)), [], .nil, Heap.DictOf.new h⟩
section
variable {X : Cx} {pos : Pos}
end

noncomputable def tPairs : List (TE × TE) → St → Hp → (List (V × V) → Hp → Prop) → Prop
  | [], _, H, Q => Q [] H
  | (tk, tv) :: r, σ, H, Q => tk σ H fun x H1 => tv σ H1 fun y H2 => tPairs r σ H2 fun ps H3 => Q ((x, y) :: ps) H3
noncomputable abbrev VV : List (V × V) → List (Value × Value) → Prop := Paired fun p q => RelV p.1 q.1 ∧ RelV p.2 q.2
noncomputable def PPs (X : Cx) (pos : Pos) (keys : List (Option Expr)) (values : List Expr) (trs : List (TE × TE)) : Prop :=
  ∀ (pins : List (Addr × Obj)) (s : Shared) (σ : St) (H : Hp) (Q : List (V × V) → Hp → Prop), Inv X pins σ H s → tPairs trs σ H Q →
    wpAny (model X.prog X.w) X.A (evalPairs (pairTrees keys values X.env pos)) (fun vs s' => ∃ ps H', Inv X pins σ H' s' ∧ VV ps vs ∧ Q ps H') X.xe s
theorem pps_nil {X : Cx} {pos : Pos} : PPs X pos [] [] [] := fun pins s σ H Q I h => pairTrees_nil_walk ⟨[], H, I, .nil, h⟩
theorem pps_cons {X : Cx} {pos : Pos} {k v : Expr} {ks : List (Option Expr)} {vs : List Expr} {tk tv : TE} {trs : List (TE × TE)} (hk : PE X k tk) (hv : PE X v tv) (hr : PPs X pos ks vs trs) :
    PPs X pos (some k :: ks) (v :: vs) ((tk, tv) :: trs) := fun pins s σ H Q I h =>
  pairTrees_cons_walk (thn (hk pins s σ H _ I h) fun u s1 ⟨x, H1, I1, rx, q1⟩ => thn (hv pins s1 σ H1 _ I1 q1) fun w2 s2 ⟨y, H2, I2, ry, q2⟩ =>
    thn (hr pins s2 σ H2 _ I2 q2) fun ws s3 zq75 => (by obtain ⟨ps, H3, I3, rel, q3⟩ := zq75; exact ⟨(x, y) :: ps, H3, I3, .cons ⟨rx, ry⟩ rel, q3⟩))

noncomputable def mergeK (kvs more : List (Key × V)) : List (Key × V) := more.foldl (fun acc kv => putK acc kv.1 kv.2) kvs
theorem KV.merge : ∀ {more : List (Key × V)} {rs : List (Key × Value)} {kvs : List (Key × V)} {vs : List (Key × Value)}, KV more rs → KV kvs vs → KV (mergeK kvs more) (merged vs rs) := by
  intro more rs kvs vs r
  unfold KV at r
  induction r generalizing kvs vs with
  | nil => intro q; exact q
  | @cons p q ps qs h t ih =>
    intro r0
    have e : KV (putK kvs p.1 p.2) (stored vs q.1 q.2) := by
      have := r0.put p.1 h.2
      rw [← h.1]; exact this
    exact ih e
theorem length_mergeK : ∀ (more kvs : List (Key × V)), (mergeK kvs more).length ≤ kvs.length + more.length
  | [], kvs => by show kvs.length ≤ kvs.length + 0; omega
  | p :: r, kvs => by
    have h1 := length_mergeK r (putK kvs p.1 p.2)
    have h2 := length_putK kvs p.1 p.2
    show (mergeK (putK kvs p.1 p.2) r).length ≤ _
    rw [List.length_cons]; omega
theorem carries_of {P : Program} {w : World} : ∀ {kvs : List (Key × V)} {ws : List (Value × Value)}, VV (kvs.map fun kv => (kV kv.1, kv.2)) ws → ∃ rs, Carries (mixKind P w) ws rs ∧ KV kvs rs
  | [], _, r => by rw [List.map_nil] at r; cases r; exact ⟨[], True.intro, .nil⟩
  | p :: kvs, _, r => by
    rw [List.map_cons] at r
    cases r with
    | @cons a b as bs h t =>
      obtain ⟨rs, c, q⟩ := carries_of (P := P) (w := w) t
      obtain ⟨b1, b2⟩ := b
      exact ⟨(p.1, b2) :: rs, ⟨kV_is h.1, rfl, c⟩, .cons ⟨rfl, h.2⟩ q⟩
noncomputable def tDisp (trs : List (TE × TE)) : TE := fun σ H Q => ∀ p, H p = none → tPairs trs σ (upd H p (.dK [])) fun ps H2 => H2 p = some (.dK []) ∧ ∃ kvs : List (Key × V), ps = kvs.map (fun kv => (kV kv.1, kv.2)) ∧ kvs.length ≤ 15 ∧ Q (.ref p) (upd H2 p (.dK (mergeK [] kvs)))
theorem pe_disp {X : Cx} {pos : Pos} {keys : List (Option Expr)} {values : List Expr} {trs : List (TE × TE)} (h : PPs X pos keys values trs) (hall : keys.all (·.isSome) = true) (hl : keys.length = values.length) (h0 : keys ≠ [])
    (h15 : keys.length ≤ 15) : PE X (.Dict keys values pos) (tDisp trs) := by
  intro pins s σ H Q I q
  have hn := I.hok.fresh (Nat.le_refl s.heap.objs.size)
  have I1 := (I.laid (a := s.heap.objs.size) (o := .dK []) (h' := s.heap.push { cls := .type "dict", data := .dict #[] }) (t' := s.toks) (fun _ _ q => Heap.get?_push_of_some _ q) (Nat.le_refl _) (dk_empty s.heap I.big)).up I.low
  refine wpAny_Dict_walk (knd := mixKind X.prog X.w) hall hl h0 h15 (thn (h pins _ σ _ _ I1 (q _ hn)) fun ws s2 zq76 => ?_)
  obtain ⟨ps, H2, I2, rel, e, kvs, ep, lk, q2⟩ := zq76
  subst ep
  obtain ⟨rs, c, rk⟩ := carries_of (P := X.prog) (w := X.w) rel
  obtain ⟨z, hd, vs0, r0, dd⟩ := dk_of I2.hok e
  cases r0
  refine ⟨rs, c, dd, fun h' dd' hs => ⟨.ref s.heap.objs.size, _, ?_, rfl, q2⟩⟩
  have hz : (mergeK [] kvs).length ≤ sizeLine := by
    have h1 := length_mergeK kvs []
    rw [List.length_nil] at h1
    rw [sizeLine_eq]; omega
  have he : ∃ q, h'.get? s.heap.objs.size = some q := let ⟨q, _, _, hq, _⟩ := dd'; ⟨q, hq⟩
  exact d_write I2 (by rw [e]; exact True.intro) hs he (dk_new hz hd (rk.merge .nil) dd')




section
variable {X : Cx} {pins : List (Addr × Obj)} {σ : St} {H : Hp} {s : Shared} {a : Addr} {y d : V} {u r : Value} {o : Option V} {A : Around} {E : Value → Shared → Prop}
end

section
variable {X : Cx} {o e f : Expr} {apos cpos : Pos} {td ty tx : TE}
end

section
variable {X : Cx} {pins : List (Addr × Obj)} {σ : St} {H : Hp} {s : Shared} {a : Addr} {kvs : List (Key × V)} {A : Around} {E : Value → Shared → Prop}
end


section
variable {X : Cx} {pins : List (Addr × Obj)} {σ : St} {H : Hp} {s : Shared} {a : Addr} {y : V} {u : Value} {A : Around} {E : Value → Shared → Prop}
end
end L2

namespace Att
open PySem PySem.W PySem.Calls PyProof.Rows

theorem ints_of_wellAll {P : Params} {h : Heap} : ∀ (ns : List Int) (vs : List Value), WellAll P h vs (ns.map WData.int) → IntsAre vs ns := by
  intro ns
  induction ns with
  | nil =>
    intro vs w
    rw [List.map_nil] at w
    cases w
    exact .nil
  | cons n ns ih =>
    intro vs w
    rw [List.map_cons] at w
    cases w with
    | cons a b =>
      cases a
      exact .cons _ _ (ih _ b)

theorem script_of {l : OpenLaw} {n : Nat} (hn : l.most = some n) {P : Params} {h : Heap} {args : List WData} {vals : List Value}
    (hpre : l.row.toRowW.claim.pre args = true) (hwl : WellAll P h vals args) :
    ∃ a vs ns, vals = [Value.ref a] ∧ args = [WData.list (ns.map WData.int)] ∧ h.get? a = some { cls := .type "list", data := .seq vs.toArray } ∧ IntsAre vs ns ∧ ns.length ≤ n := by
  have hsh : WShape.hasAll [] args [.list .int] = true := (pre_splitW hpre).1
  have hc : l.pre.holds [] { args := args } = true := (pre_splitW hpre).2
  obtain ⟨d, r, rfl, h1, h2⟩ := hasAllW_cons hsh
  obtain rfl := hasAllW_nil h2
  obtain ⟨xs, rfl, h3⟩ := hasW_list h1
  obtain ⟨ns, rfl⟩ := items_int h3
  have hlen : ns.length ≤ n := by
    unfold OpenLaw.pre at hc
    have h4 : (WTm.not (.lt (.lit (.int (n : Int))) (.len (.arg 0)))).holds [] { args := [.list (ns.map .int)] } = true := by
      have h4 := (holds_andW hc).1
      rw [hn] at h4
      exact h4
    have h5 := condW_of h4 (w_not (w_lt w_lit (w_len_list (w_arg rfl))))
    rw [List.length_map] at h5
    refine Nat.le_of_not_lt fun q => ?_
    have q' : (n : Int) < ((ns.length : Nat) : Int) := by omega
    first
      | (rw [decide_eq_true q'] at h5; exact absurd h5 (by decide))
      | (simp at h5; omega)
  cases hwl with
  | cons w1 w2 =>
    cases w2
    cases w1 with
    | list ho hall => exact ⟨_, _, ns, rfl, rfl, ho, ints_of_wellAll ns _ hall, hlen⟩

theorem post_true (l : OpenLaw) (args : List WData) : l.row.toRowW.claim.post args (.bool true) args = true :=
  postW_of (r := l.row.toRowW) (X := (true == true))
    (show WShape.has [] (.bool true) .bool = true by first | rfl | decide | simp [WShape.has, WShape.arms, WShape.armsAll])
    (show (WTm.eq .res (.lit (.bool true))).value [] { args := args, res := some (.bool true), after := args } = some (.bool (true == true)) from w_eq_bool (w_res rfl) w_lit) rfl




section
variable {prog : Program} {w : World} {A : Around} {E : Value → Shared → Prop} {s : Shared} {K : Frag}






end
end Att

namespace L2
open PySem PySem.Spec PyProof.Rows

theorem vals_ints : ∀ {vs : List Value} {ns : List Int}, IntsAre vs ns → Vals (ns.map V.int) vs
  | _, _, .nil => .nil
  | _, _, .cons n t h => .cons ⟨t, rfl⟩ (vals_ints h)

noncomputable def Only (H : Hp) : Prop := ∀ b, H b = none ∨ ∃ o xs, H b = some (.frz o (.lst xs))

end L2

namespace L2
open PySem PySem.Spec PyProof.Rows


end L2

/- THE LAST THEOREM (shape; LID, My.* are yours):
   My.Adr: a structure of the addresses that your layer names (classes, functions); My.Txt K t: a structure (Prop) of the equations over K;
   My.txt_mk : {K} {implicit addresses ..} (e1 : nsIn K mainGlobals "law" = some (some (.ref f))) (e2 : K.lookup f = some ⟨oc, od, .func (fnOf "law" "law" params body scope dV kV doc pm an cdv ct), sl⟩) (e3 : codeIn K cdv "law" = true) .. : ∃ t, My.Txt K t

set_option maxRecDepth 100000 in
set_option maxHeartbeats 0 in
theorem PySem.Challenge.cw_LID_holds : PySem.Challenge.rw_LID.Holds := by
  w_on; o_law; k_head; (case hw => w_witness2)
  k_fill
  refine L2.walk_of (l := PySem.Challenge.rw_LID) (n := 63) (k := 40) (x := "script") (CX := fun w => ..) (sp := fun _ => My.sp_law) rfl (by decide) rfl ⟨rfl, by decide, by decide⟩ (fun w h Y => PySem.W.kIn_of Y) ?F ?S ?C
  case F =>
    intro w mg fa h KX G hmg
    have T : ∃ t, My.Txt (L2.KOf KX) t := by
      dsimp only [L2.KOf]                          -- K must stand as «<heap const> w.params» for k_is
      refine' My.txt_mk ?e1 ?e2 ?e3 ..
      (case e1 => PySem.W.k_is)                    -- in the order: a name -> its address -> its object -> its parts
      (case e2 => PySem.W.k_is)
      ..
    obtain ⟨t, T⟩ := T
    have e0 := hmg.symm.trans (PySem.W.mg_of KX G T.law)
    cases e0                                       -- fa is the law's own address
    exact ⟨_, fun s u => .of_eq rfl, fun base kb nb => My.law_fn T kb nb⟩     -- if «.of_eq rfl» comes too early: refine' ⟨_, ?b, fun base kb nb => My.law_fn T kb nb⟩; exact fun s u => .of_eq rfl
  case S => exact fun w H a ns hl hO hS => ..
  case C => exact ..
(the tactic k_is has no namespace: write k_is) -/

namespace L2
open PySem PySem.Spec PyProof.Rows

noncomputable def defArgs (s : Stmt) : Arguments := match s with
  | .FunctionDef _ a _ _ _ _ _ _ _ _ => a
  | _ => { posonlyargs := [], args := [], vararg := none, kwonlyargs := [], kw_defaults := [], kwarg := none, defaults := [] }
noncomputable def defBody (s : Stmt) : List Stmt := match s with
  | .FunctionDef _ _ b _ _ _ _ _ _ _ => b
  | _ => []
noncomputable def defScope (s : Stmt) : Scope := match s with
  | .FunctionDef _ _ _ _ _ _ sc _ _ _ => sc
  | _ => { kind := .function, names := [], isGenerator := false, isCoroutine := false }

noncomputable abbrev CX0 : CXT := fun _ _ _ _ _ _ => False
noncomputable abbrev E0 : XK := fun _ _ _ => False
theorem pass0 {X : Cx} : Passes CX0 X E0 := fun _ _ _ _ _ _ _ h => h.elim

structure Fun (K : PySem.W.Frag) (x qual : Str) (st : Stmt) (f : Addr) (fd : FuncData) : Prop where
  ex : ∃ (oc : Value) (od : Option Addr) (kV doc pm : Value) (an : Option Addr) (cdv ct : Value) (osl : Array (Option Value)),
    fd = PySem.W.fnOf x qual (defArgs st) (defBody st) (defScope st) .none kV doc pm an cdv ct ∧ K.lookup f = some ⟨oc, od, .func fd, osl⟩ ∧ PySem.W.codeIn K cdv qual = true
  kp : PySem.W.keepIn K (.ref f) = true
section
variable {P : Program} {w : World} {K : PySem.W.Frag} {mg : Str → Option Value} {base : Heap}
theorem Fun.ok {x qual : Str} {st : Stmt} {f : Addr} {fd : FuncData} {N ps : List Str} {k : Nat} {sp : Sp} (F : Fun K x qual st f fd) (S : FnScope N ps (defScope st)) (len : ∀ vs H Q E, sp vs H Q E → vs.length = ps.length)
    (hbody : ∀ (cdv : Value) (A : Around) (outer : List Env) (s : Shared) (H : Hp) (vs : List V) (Q : VK) (E : XK), Room k (A.deeper (envOfC qual (defScope st) s.heap.objs.size f cdv)) → sp vs H Q E →
      ∃ t, PSs (cxOf CX0 P w K mg base N qual (defScope st) f cdv A outer s H E).nox (defBody st) t ∧ t { nx := fun _ H' => Q .non H', rt := Q } (start N vs) H) : FnOk P w K mg base CX0 (k + 1) f fd ps sp := by
  obtain ⟨oc, od, kV, doc, pm, an, cdv, ct, osl, rfl, lk, hcd⟩ := F.ex
  refine fn_of lk hcd S len fun A outer s H vs Q E hr hsp => ?_
  obtain ⟨t, h, q⟩ := hbody cdv A outer s H vs Q E hr hsp
  exact ⟨t, h.nox, q⟩
theorem Fun.binds {x qual : Str} {st : Stmt} {f : Addr} {fd : FuncData} {ps : List Str} (F : Fun K x qual st f fd)
    (h : ∀ (kV doc pm : Value) (an : Option Addr) (cdv ct : Value) (us : List Value), us.length = ps.length → bindArgs (PySem.W.fnOf x qual (defArgs st) (defBody st) (defScope st) .none kV doc pm an cdv ct) ⟨us, []⟩ = pure (ps.zip us)) : Binds K fd ps [] := by
  obtain ⟨oc, od, kV, doc, pm, an, cdv, ct, osl, rfl, lk, hcd⟩ := F.ex
  exact .all (h kV doc pm an cdv ct)
theorem fun_mk {x qual : Str} {st : Stmt} {f : Addr} {oc : Value} {od an : Option Addr} {osl : Array (Option Value)} {kV doc pm cdv ct : Value} (l : K.lookup f = some ⟨oc, od, .func (PySem.W.fnOf x qual (defArgs st) (defBody st) (defScope st) .none kV doc pm an cdv ct), osl⟩)
    (c : PySem.W.codeIn K cdv qual = true) (k : PySem.W.keepIn K (.ref f) = true) : Fun K x qual st f (PySem.W.fnOf x qual (defArgs st) (defBody st) (defScope st) .none kV doc pm an cdv ct) := ⟨⟨oc, od, kV, doc, pm, an, cdv, ct, osl, rfl, l, c⟩, k⟩
end
theorem hu_of {A : Around} {k : Nat} (hr : Room k A) : A.units + 1 < cLine := Nat.lt_of_le_of_lt (Nat.add_le_add_left (by decide : 1 ≤ 64) _) hr.units

section
variable {X : Cx}
theorem pv (i : Nat) {x : Str} {pos : Pos} (hN : X.N[i]? = some x := by rfl) (hv : Vis X.env.scope x := by first | exact Or.inl rfl | exact Or.inr (Or.inl rfl) | exact Or.inr (Or.inr rfl)) (hd : (x == ("__debug__" : Str)) = false := by decide)
    (hcd : (x == ("__classdict__" : Str)) = false := by decide) : PE X (.Name x pos) (tVar i) := pe_var hN hv hd hcd
end

theorem iteF {A B : Prop} (h : B) : if false = true then A else B := by
  rw [if_neg Bool.false_ne_true]
  exact h
theorem iteT {A B : Prop} (h : A) : if true = true then A else B := by
  rw [if_pos rfl]
  exact h
theorem ite2 {c A B : Prop} [Decidable c] (h1 : c → A) (h2 : ¬ c → B) : if c then A else B := by
  by_cases h : c
  · rw [if_pos h]
    exact h1 h
  · rw [if_neg h]
    exact h2 h

noncomputable def Same (H H' : Hp) : Prop := ∀ b o, H b = some o → H' b = some o
theorem Same.refl (H : Hp) : Same H H := fun _ _ h => h
theorem Same.trans {H H1 H2 : Hp} (a : Same H H1) (b : Same H1 H2) : Same H H2 := fun c o h => b c o (a c o h)
theorem Same.seq {K : PySem.W.Frag} {H H' : Hp} {a : Addr} {xs : List V} (e : Same H H') (h : SqL K H a xs) : SqL K H' a xs := by
  rcases h with (h | ⟨o, h⟩) | h
  · exact .inl (.inl (e _ _ h))
  · exact .inl (.inr ⟨o, e _ _ h⟩)
  · exact .inr h

section
variable {κ : Type} [DecidableEq κ]
end
end L2
set_option Elab.async false
set_option linter.all false
set_option maxRecDepth 100000
namespace L2
open PySem PySem.Spec PyProof.Rows

noncomputable def clOf (cells : List (Str × Addr)) : List (Str × NameKind) → List (Str × Addr) → List (Str × Addr)
  | [], acc => acc
  | (x, k) :: r, acc => if k == NameKind.free then clOf cells r ((x, (cells.lookup x).getD 0) :: acc) else clOf cells r acc
theorem clOf_mem {cells : List (Str × Addr)} {p : Str × Addr} : ∀ {names : List (Str × NameKind)} {acc : List (Str × Addr)}, p ∈ clOf cells names acc → p ∈ acc ∨ ((p.1, NameKind.free) ∈ names ∧ p.2 = (cells.lookup p.1).getD 0)
  | [], _, h => .inl h
  | (x, k) :: r, acc, h => by
    unfold clOf at h
    by_cases hk : (k == NameKind.free) = true
    · rw [if_pos hk] at h
      have ek : k = NameKind.free := by simpa using hk
      subst ek
      rcases clOf_mem h with h | ⟨h, e⟩
      · rcases List.mem_cons.mp h with h | h
        · subst h
          exact .inr ⟨List.mem_cons_self, rfl⟩
        · exact .inl h
      · exact .inr ⟨List.mem_cons_of_mem _ h, e⟩
    · rw [if_neg hk] at h
      rcases clOf_mem h with h | ⟨h, e⟩
      · exact .inl h
      · exact .inr ⟨List.mem_cons_of_mem _ h, e⟩
theorem clOf_acc {cells : List (Str × Addr)} {p : Str × Addr} : ∀ {names : List (Str × NameKind)} {acc : List (Str × Addr)}, p ∈ acc → p ∈ clOf cells names acc
  | [], _, h => h
  | (x, k) :: r, acc, h => by
    unfold clOf
    split
    · exact clOf_acc (List.mem_cons_of_mem _ h)
    · exact clOf_acc h
theorem clOf_has {cells : List (Str × Addr)} {x : Str} : ∀ {names : List (Str × NameKind)} {acc : List (Str × Addr)}, (x, NameKind.free) ∈ names → (x, (cells.lookup x).getD 0) ∈ clOf cells names acc
  | [], _, h => by simp at h
  | (y, k) :: r, acc, h => by
    unfold clOf
    rcases List.mem_cons.mp h with h | h
    · have e1 : x = y := congrArg Prod.fst h
      have e2 : NameKind.free = k := congrArg Prod.snd h
      subst e1 e2
      rw [if_pos (by simp)]
      exact clOf_acc List.mem_cons_self
    · split
      · exact clOf_has h
      · exact clOf_has h
theorem lookup_of_mem {x : Str} {c : Addr} : ∀ {l : List (Str × Addr)}, (x, c) ∈ l → ∃ d, l.lookup x = some d
  | [], h => by simp at h
  | (y, d) :: r, h => by
    rw [List.lookup_cons]
    by_cases e : (x == y) = true
    · rw [e]; exact ⟨d, rfl⟩
    · have e' : (x == y) = false := by simpa using e
      rw [e']
      rcases List.mem_cons.mp h with h | h
      · have : x = y := congrArg Prod.fst h
        exact absurd (by simpa using this) e
      · exact lookup_of_mem h
theorem closureFor_is {env : Env} {scope : Scope} (h : ∀ y ∈ scope.names, y.2 = NameKind.free → ∃ c, env.cells.lookup y.1 = some c) : closureFor scope env = pure (clOf env.cells scope.names []) := by
  have all : ∀ (names : List (Str × NameKind)) (acc : List (Str × Addr)), (∀ y ∈ names, y.2 = NameKind.free → ∃ c, env.cells.lookup y.1 = some c) →
      (forIn names acc (fun (p : Str × NameKind) (r : List (Str × Addr)) => (if (p.2 == NameKind.free) = true then (do let a ← cellOf env p.1; pure (ForInStep.yield ((p.1, a) :: r))) else pure (ForInStep.yield r) : Sem (ForInStep (List (Str × Addr)))))) = (pure (clOf env.cells names acc) : Sem (List (Str × Addr))) := by
    intro names
    induction names with
    | nil => intro acc _; rfl
    | cons p r ih =>
      intro acc hh
      obtain ⟨x, k⟩ := p
      have hr : ∀ y ∈ r, y.2 = NameKind.free → ∃ c, env.cells.lookup y.1 = some c := fun y hy => hh y (List.mem_cons_of_mem _ hy)
      rw [List.forIn_cons]
      unfold clOf
      by_cases hk : (k == NameKind.free) = true
      · obtain ⟨c, hc⟩ := hh (x, k) List.mem_cons_self (by simpa using hk)
        have hc : env.cells.lookup x = some c := hc
        have ec : cellOf env x = pure c := by
          unfold cellOf
          rw [hc]
        simp only [hk, if_true, ec, pure_bind, hc, Option.getD_some]
        exact ih _ hr
      · simp only [hk, if_false, pure_bind]
        exact ih _ hr
  have e := all scope.names [] h
  unfold closureFor
  simp only [bind_pure]
  exact e

noncomputable def blkOk (scope sc : Scope) (NB own : List Str) (cap : List Nat) (N : List Str) : Bool :=
  (scope.kind == .function) && (sc.kind == .function) &&
  (scope.names.all fun y => match y.2 with
    | .cell => false
    | .free => sc.names.lookup y.1 == some NameKind.cell
    | .local => scope.names.lookup y.1 == some NameKind.local
    | _ => true) &&
  (own.all fun x => scope.names.lookup x == some NameKind.local && scope.names.all fun y => !(y.1 == x) || y.2 == NameKind.local) &&
  (NB == own ++ cap.map fun i => N.getD i "") && (cap.all fun i => decide (i < N.length) && scope.names.lookup (N.getD i "") == some NameKind.free)

structure Blk (X : Cx) (scope : Scope) (NB own : List Str) (cap : List Nat) : Prop where
  kind : scope.kind = .function
  outk : X.env.scope.kind = .function
  nocell : ∀ y ∈ scope.names, y.2 ≠ .cell
  free : ∀ y ∈ scope.names, y.2 = .free → X.env.kindOf y.1 = some .cell
  names : ∀ y ∈ scope.names, y.2 = .local → scope.names.lookup y.1 = some .local
  owns : ∀ x ∈ own, ∀ y ∈ scope.names, y.1 = x → y.2 = .local
  nb : NB = own ++ cap.map fun i => X.N.getD i ""
  caps : ∀ i ∈ cap, i < X.N.length ∧ scope.names.lookup (X.N.getD i "") = some .free
theorem blk_of {X : Cx} {scope sc : Scope} {NB own : List Str} {cap : List Nat} (hs : X.env.scope = sc) (h : blkOk scope sc NB own cap X.N = true) : Blk X scope NB own cap := by
  unfold blkOk at h
  simp only [Bool.and_eq_true] at h
  obtain ⟨⟨⟨⟨⟨h1, h2⟩, h3⟩, h4⟩, h5⟩, h6⟩ := h
  rw [List.all_eq_true] at h3 h4 h6
  subst hs
  refine ⟨by simpa using h1, by simpa using h2, fun y hy e => ?_, fun y hy e => ?_, fun y hy e => ?_, fun x hx y hy e => ?_, by simpa using h5, fun i hi => ?_⟩
  · have := h3 y hy
    rw [e] at this
    exact absurd this (by simp)
  · have := h3 y hy
    rw [e] at this
    show X.env.scope.names.lookup y.1 = some .cell
    simpa using this
  · have := h3 y hy
    rw [e] at this
    simpa using this
  · have := h4 x hx
    simp only [Bool.and_eq_true, List.all_eq_true] at this
    have q := this.2 y hy
    subst e
    simpa using q
  · have := h6 i hi
    simp only [Bool.and_eq_true] at this
    exact ⟨of_decide_eq_true this.1, by simpa using this.2⟩

noncomputable def cxB (X : Cx) (NB own : List Str) (scope : Scope) (C : Addr) (fp : List Addr) (s₀ : Shared) (H₀ : Hp) : Cx where
  prog := X.prog
  w := X.w
  K := X.K
  mg := X.mg
  base := X.base
  A := X.A
  N := NB
  s₀ := s₀
  H₀ := H₀
  env := compEnvC scope (clOf X.env.cells scope.names []) C X.env
  outer := X.stack
  stack := X.stack
  ex := fp
  fn := fun x => own.contains x
  calm := X.calm
  pn := []
  lo := X.lo
  xe := fun _ _ => False

theorem relabel_free {env : Env} {x : Str} {k : NameKind} (hk : k = .cell ∨ k = .free) : ∀ {names : List (Str × NameKind)}, (∀ y ∈ names, y.2 ≠ .cell) →
    (names.map fun (n, k) => if (k == NameKind.free && env.scope.kind == .function && env.kindOf n == some .cell) then (n, NameKind.cell) else (n, k)).lookup x = some k → (x, NameKind.free) ∈ names
  | [], _, h => by simp at h
  | (n, q) :: r, hn, h => by
    have ih := @relabel_free env x k hk r fun y hy => hn y (List.mem_cons_of_mem _ hy)
    rw [List.map_cons, List.lookup_cons] at h
    have key : (if (q == NameKind.free && env.scope.kind == .function && env.kindOf n == some .cell) = true then (n, NameKind.cell) else (n, q)).1 = n := by split <;> rfl
    by_cases e : (x == n) = true
    · have en : x = n := by simpa using e
      subst en
      by_cases hq : q = .free
      · subst hq; exact List.mem_cons_self
      · have hqf : (q == NameKind.free) = false := by simpa using hq
        simp only [hqf, Bool.false_and, Bool.false_eq_true, if_false, beq_self_eq_true] at h
        have h' : q = k := Option.some.inj h
        rcases hk with z | z
        · exact absurd (h'.trans z) (hn (x, q) List.mem_cons_self)
        · exact absurd (h'.trans z) hq
    · have e' : (x == n) = false := by simpa using e
      refine List.mem_cons_of_mem _ (ih ?_)
      have e2 : (x == (if (q == NameKind.free && env.scope.kind == .function && env.kindOf n == some .cell) = true then (n, NameKind.cell) else (n, q)).1) = false := by rw [key]; exact e'
      rw [e2] at h
      exact h
theorem relabel_cap {env : Env} {x : Str} (hk : env.scope.kind = .function) (hc : env.kindOf x = some .cell) : ∀ {names : List (Str × NameKind)}, names.lookup x = some .free →
    (names.map fun (n, k) => if (k == NameKind.free && env.scope.kind == .function && env.kindOf n == some .cell) then (n, NameKind.cell) else (n, k)).lookup x = some .cell
  | [], h => by simp at h
  | (n, q) :: r, h => by
    have ih := @relabel_cap env x hk hc r
    rw [List.lookup_cons] at h
    rw [List.map_cons, List.lookup_cons]
    by_cases e : (x == n) = true
    · have en : x = n := by simpa using e
      subst en
      rw [e] at h
      have hq : q = .free := Option.some.inj h
      subst hq
      simp [hk, hc]
    · have e' : (x == n) = false := by simpa using e
      rw [e'] at h
      have key : (if (q == NameKind.free && env.scope.kind == .function && env.kindOf n == some .cell) = true then (n, NameKind.cell) else (n, q)).1 = n := by split <;> rfl
      have e2 : (x == (if (q == NameKind.free && env.scope.kind == .function && env.kindOf n == some .cell) = true then (n, NameKind.cell) else (n, q)).1) = false := by rw [key]; exact e'
      rw [e2]
      exact ih h

noncomputable def stB (own : List Str) (cap : List Nat) (σ : St) : St := (own.map fun _ => none) ++ cap.map fun i => (σ[i]?).getD none

section
variable {X : Cx} {pins : List (Addr × Obj)} {σ : St} {H : Hp} {s : Shared} {scope : Scope} {NB own : List Str} {cap : List Nat} {fp : List Addr} {C : Addr}
theorem Blk.cells (B : Blk X scope NB own cap) (ok : X.Ok) {x : Str} {c : Addr} (h : (clOf X.env.cells scope.names []).lookup x = some c) : X.env.cells.lookup x = some c ∧ (x, NameKind.free) ∈ scope.names := by
  rcases clOf_mem (PySem.mem_of_lookup h) with q | ⟨q, e⟩
  · simp at q
  · obtain ⟨d, hd⟩ := ok.has x (.inl (B.free (x, .free) q rfl))
    have e : c = (X.env.cells.lookup x).getD 0 := e
    rw [hd] at e
    refine ⟨?_, q⟩
    rw [hd, e]; rfl
theorem Blk.cell (B : Blk X scope NB own cap) (ok : X.Ok) {x : Str} (h : (x, NameKind.free) ∈ scope.names) : ∃ c, (clOf X.env.cells scope.names []).lookup x = some c := lookup_of_mem (clOf_has h)
theorem Blk.start (B : Blk X scope NB own cap) (I : Inv X pins σ H s) (hf : ∀ b ∈ fp, FpOk X pins H b) (hfs : ∀ b ∈ fp, ∃ o, s.heap.get? b = some o) {h' : Heap} {tk : Nat} {m : Str → Option Value} (hC : s.heap.objs.size ≤ C)
    (k : ∀ b o, s.heap.get? b = some o → h'.get? b = some o) (hn : h'.Ns C m) (hk : s.toks ≤ tk) :
    Inv (cxB X NB own scope C fp s H) [] (stB own cap σ) H { s with heap := h', toks := tk } := by
  have hlen : NB.length = own.length + cap.length := by rw [B.nb]; simp
  have okB : (cxB X NB own scope C fp s H).Ok := by
    refine ⟨I.ok.mod, B.kind, I.ok.glob, I.ok.blt, hC, fun x y c h1 h2 => I.ok.inj x y c (B.cells I.ok h1).1 (B.cells I.ok h2).1, fun x hx => ?_, fun x c h1 h2 => ?_, I.ok.hd, I.ok.frames, .inl rfl, fun b hb => ⟨?_, fun x c h => ?_⟩, I.bs, Nat.le_trans I.ok.bsz I.sz, fun b o e hb => ?_, fun b hb z => ?_, I.stack, I.stkFree⟩
    · have : (x, NameKind.free) ∈ scope.names := by
        rcases hx with z | z
        · exact relabel_free (.inl rfl) B.nocell z
        · exact relabel_free (.inr rfl) B.nocell z
      exact B.cell I.ok this
    · have hx : x ∈ own := by simpa [cxB] using h1
      have q := B.owns x hx _ (B.cells I.ok h2).2 rfl
      exact absurd q (by simp)
    · obtain ⟨o, e⟩ := hfs b hb
      exact Nat.ne_of_lt (Nat.lt_of_lt_of_le (Heap.lt_size e) hC)
    · exact (hf b hb).2.2.2.2.1 x c (B.cells I.ok h).1
    · have hb : b ∈ fp := hb
      rcases (hf b hb).2.2.2.1 with z | z
      · exact I.ok.noex b o e z
      · exact absurd (Nat.lt_of_lt_of_le (Heap.lt_size e) (Nat.le_trans I.ok.bsz z)) (Nat.lt_irrefl _)
    · rcases List.mem_cons.mp (I.stkSub b z) with z | z
      · exact (hf b hb).2.1 z
      · exact (hf b hb).2.2.1 z
  refine InvW.up (X := cxB X NB own scope C fp s H) ?_ (Nat.le_trans I.low hk)
  refine ⟨okB, rfl, I.bare, Un.kept k, ⟨m, hn, fun i x v e1 e2 e3 => ?_⟩, fun x c h => ?_, I.hok.fresh hC, fun x c h => I.freeC x c (B.cells I.ok h).1, fun p hp => absurd (show p ∈ ([] : List (Addr × Obj)) from hp) (by simp), I.hok.kept k, ?_⟩
  · have e1 : NB[i]? = some x := e1
    have hi : ¬ i < own.length := fun hi => by
      unfold stB at e2
      rw [List.getElem?_append_left (by simpa using hi), List.getElem?_map] at e2
      cases q : own[i]? <;> rw [q] at e2 <;> cases e2
    unfold stB at e2
    rw [List.getElem?_append_right (by simpa using hi), List.getElem?_map] at e2
    rw [B.nb, List.getElem?_append_right (by omega), List.getElem?_map] at e1
    simp only [List.length_map] at e2
    cases q : cap[i - own.length]? with
    | none => rw [q] at e1; cases e1
    | some j =>
      rw [q] at e1 e2
      have ex : X.N.getD j "" = x := Option.some.inj e1
      have ev : (σ[j]?).getD none = some v := Option.some.inj e2
      obtain ⟨hj, hjf⟩ := B.caps j (List.mem_of_getElem? q)
      rw [ex] at hjf
      have hN : X.N[j]? = some x := by rw [← ex, List.getD_eq_getElem?_getD, List.getElem?_eq_getElem hj]; rfl
      have hσ : σ[j]? = some (some v) := by
        cases z : σ[j]? with
        | none => rw [z] at ev; cases ev
        | some u => rw [z] at ev; exact congrArg some ev
      have hmem : (x, NameKind.free) ∈ scope.names := PySem.mem_of_lookup hjf
      have hkc := B.free _ hmem rfl
      obtain ⟨m0, hn0, hl⟩ := I.loc
      obtain ⟨u, r, l⟩ := hl j x v hN hσ (.inr (.inl hkc))
      refine ⟨u, r, .inr ⟨.inl (relabel_cap B.outk hkc hjf), ?_⟩⟩
      obtain ⟨c, hc⟩ := B.cell I.ok hmem
      refine ⟨c, hc, ?_⟩
      rcases l with ⟨z, _⟩ | ⟨_, c', hc', ⟨oc, hoc, hd⟩⟩
      · rw [show X.env.kindOf x = some .cell from hkc] at z; cases z
      · have := (B.cells I.ok hc).1
        rw [hc'] at this
        have : c' = c := Option.some.inj this
        subst this
        exact ⟨oc, k _ _ hoc, hd⟩
  · obtain ⟨v, oc, hoc, hd⟩ := I.cell x c (B.cells I.ok h).1
    exact ⟨v, oc, k _ _ hoc, hd⟩
  · show (stB own cap σ).length = NB.length
    unfold stB
    rw [hlen]; simp
theorem Blk.done (B : Blk X scope NB own cap) (I : Inv X pins σ H s) (hf : ∀ b ∈ fp, FpOk X pins H b) {σB : St} {H' : Hp} {s' : Shared} {h'' : Heap} {D : Addr} {ys : List V} {its : List Value} {n : Nat} (hC : s.heap.objs.size ≤ C) (hD : s.heap.objs.size ≤ D) (hDC : D ≠ C)
    (J : Inv (cxB X NB own scope C fp s H) [] σB H' s') (hn : H' D = none) (e : s'.heap.get? D = some { cls := .type "list", data := .seq its.toArray n }) (hv : Vals ys its) (hz : ys.length ≤ sizeLine)
    (sb : Heap.SameBut C s'.heap h'') : InvW X pins σ (upd H' D (.lst ys)) { s' with heap := h'' } := by
  have un : Un (frs X.stack) fp H H' s.heap s'.heap := J.base
  have neC : ∀ {b o}, s.heap.get? b = some o → b ≠ C := fun q => Nat.ne_of_lt (Nat.lt_of_lt_of_le (Heap.lt_size q) hC)
  have neD : ∀ {b o}, s.heap.get? b = some o → b ≠ D := fun q => Nat.ne_of_lt (Nat.lt_of_lt_of_le (Heap.lt_size q) hD)
  have hCn : H' C = none := J.free
  refine I.call' (s' := { s' with heap := h'' }) (ch := fp) J.os ⟨fun b o q n hb hx => ?_, fun b o q n hb hx => ?_, fun b o q n hx => ?_, fun b o q hx => ?_, fun b xs q => ?_, fun b o u q => ?_, fun b ps q => ?_⟩ (fun b u q => ?_) J.bare fun b hb => ?_
  · exact (sb.2 b (neC q)).trans (un.keep b o q n hb hx)
  · obtain ⟨sl, r⟩ := un.slot b o q n hb hx
    exact ⟨sl, (sb.2 b (neC q)).trans r⟩
  · rw [upd_ne (neD q)]
    exact un.free b o q n hx
  · obtain ⟨o', r⟩ := un.there b o q hx
    exact ⟨o', (sb.2 b (neC q)).trans r⟩
  · have r := un.tups b xs q
    rw [upd_ne (ne_of_none r hn)]
    exact r
  · have r := un.frzs b o u q
    rw [upd_ne (ne_of_none r hn)]
    exact r
  · obtain ⟨more, r⟩ := un.tbls b ps q
    exact ⟨more, by rw [upd_ne (ne_of_none r hn)]; exact r⟩
  · by_cases hb : b = D
    · subst hb
      rw [upd_same] at q
      cases q
      exact ⟨hz, its, n, hv, (sb.2 b hDC).trans e⟩
    · rw [upd_ne hb] at q
      refine (J.hok b u q).stay (fun c v hc r => (sb.2 c ?_).trans r) (fun c r => ?_) fun c xs r => ?_
      · rcases hc with z | z
        · rw [z]; exact ne_of_none q hCn
        · exact ne_of_none z hCn
      · rw [upd_ne (ne_of_none r hn)]; exact r
      · rw [upd_ne (ne_of_none r hn)]; exact r
  · obtain ⟨_, f1, _, f3, f4, f5⟩ := hf b hb
    exact ⟨f3, f1, f4, f5⟩
end

noncomputable def PIf (X : Cx) (ifs : List Expr) (t : TT) : Prop :=
  ∀ (pins : List (Addr × Obj)) (s : Shared) (σ : St) (H : Hp) (Q : Bool → Hp → Prop), Inv X pins σ H s → t σ H Q →
    wpAny (model X.prog X.w) X.A (forIn ifs true fun c r => if r = true then do let ok ← isTrue c X.env (eval c X.env); pure (ForInStep.yield ok) else pure (ForInStep.yield r)) (TP X pins σ Q) X.xe s
noncomputable def tYes : TT := fun _ H Q => Q true H
theorem pifs_nil {X : Cx} : PIf X [] tYes := fun _ _ _ H _ I h => wpAny_tests_nil ⟨H, I, h⟩
theorem pifs_one {X : Cx} {c : Expr} {t : TT} (h : PT X c t) : PIf X [c] t := fun pins s σ H Q I q => wpAny_tests_one (h pins s σ H Q I q)

section
variable {prog : Program} {w : World} {A : Around} {R : Result → Shared → Prop} {s : Shared}
noncomputable abbrev noE : Value → Shared → Prop := fun _ _ => False
theorem comp_loop {elt tg iter : Expr} {ifs : List Expr} {scope : Scope} {pos : Pos} {it acc : Value} {env : Env} (I : Nat → Shared → Prop)
    (turn : ∀ n s, I n s → wpAny (model prog w) A (pyNext it) (fun r s₁ => match r with
      | none => R (.ok .next) s₁
      | some v => wpAny (model prog w) A (letOwnedTupleGo tg it v) (fun _ s₀ => wpAny (model prog w) A (assign tg env v) (fun _ s₂ =>
          wpAny (model prog w) A (forIn ifs true fun c r => if r = true then do let ok ← isTrue c env (eval c env); pure (ForInStep.yield ok) else pure (ForInStep.yield r)) (fun ok s₃ =>
            if ok = true then wpAny (model prog w) A (eval elt env) (fun x s₄ => wpAny (model prog w) A (call (.builtin "list.append") [acc, x]) (fun _ s₅ => ∃ m, m < n ∧ I m s₅) noE s₄) noE s₃
            else ∃ m, m < n ∧ I m s₃) noE s₂) noE s₀) noE s₁) noE s)
    (n : Nat) (h : I n s) : codeAny (model prog w) A (.compLoop (.ListComp elt [⟨tg, iter, ifs, 0⟩] scope pos) 0 it acc env) R s := by
  refine codeAny_loop rfl I (fun n s hI => ?_) n h
  show wpAny _ A ((compTurn (.ListComp elt [⟨tg, iter, ifs, 0⟩] scope pos) 0 it acc env).onRaise (fun x => do noteFrame x env; theTreesLotGoes x)) _ _ s
  refine wpAny_noted ?_
  rw [compTurn_list]
  refine wpAny_bind (wpAny_standAt (wpAny_bind (wpAny_mono (turn n s hI) (fun r s₁ h₁ => ?_) fun _ _ z => False.elim z)))
  cases r with
  | none => exact wpAny_pure h₁
  | some v =>
    refine wpAny_bind (wpAny_mono h₁ (fun _ s₀ h₀ => wpAny_bind (wpAny_mono h₀ (fun _ s₂ h₂ => wpAny_bind (wpAny_mono h₂ (fun ok s₃ h₃ => ?_) fun _ _ z => False.elim z)) fun _ _ z => False.elim z)) fun _ _ z => False.elim z)
    cases ok with
    | false => exact wpAny_pure ⟨rfl, h₃⟩
    | true => exact wpAny_bind (wpAny_bind (wpAny_mono h₃ (fun x s₄ h₄ => wpAny_bind (wpAny_mono h₄ (fun _ s₅ h₅ => wpAny_pure (wpAny_pure ⟨rfl, h₅⟩)) fun _ _ z => False.elim z)) fun _ _ z => False.elim z))
end

noncomputable def CompW (own : List Str) (cap : List Nat) (g : TG) (ti : TT) (te : TE) (Q : VK) (σ : St) (J : It) (H1 : Hp) : Prop := ∃ W : Nat → Nat → List V → St → Hp → Prop, (∃ m, W 0 m [] (stB own cap σ) H1) ∧ ∀ i m ys σ H, W i m ys σ H →
  (J.stop i H ∧ ys.length ≤ sizeLine ∧ ∀ D, H D = none → Q (.ref D) (upd H D (.lst ys))) ∨
  (J.go i H ∧ ys.length < sizeLine ∧ ∀ x H', J.yld i H x H' → g x σ H' fun σ2 H2 => ti σ2 H2 fun b H3 => if b = true then te σ2 H3 fun y H4 => ∃ m', m' < m ∧ W (i + 1) m' (ys ++ [y]) σ2 H4 else ∃ m', m' < m ∧ W (i + 1) m' ys σ2 H3)
noncomputable def tComp (own : List Str) (cap : List Nat) (wi : TI) (g : TG) (ti : TT) (te : TE) : TE := fun σ H Q => wi σ H fun J H1 => CompW own cap g ti te Q σ J H1

theorem comp_gen {X : Cx} {pos2 : Pos} {use : Option (Value → Sem Unit)} {QQ : Value → Shared → Prop} {pins : List (Addr × Obj)} {s : Shared} {σ : St} {H : Hp} {Q : VK} {elt iter tg : Expr} {ifs : List Expr} {scope : Scope} {pos : Pos} {NB own : List Str} {cap : List Nat} {wi : TI} {g : TG} {ti : TT} {te : TE} (B : Blk X scope NB own cap) (hc : X.calm = true) (hi : PI X tg iter wi)
    (hg : ∀ C fp s₀ H₀, PG (cxB X NB own scope C fp s₀ H₀) tg g) (ht : ∀ C fp s₀ H₀, PIf (cxB X NB own scope C fp s₀ H₀) ifs ti) (he : ∀ C fp s₀ H₀, PE (cxB X NB own scope C fp s₀ H₀) elt te)
    (hs : ∀ x, foldedSetIterable iter X.env x = pure x) (I0 : Inv X pins σ H s) (h : tComp own cap wi g ti te σ H Q)
    (fin : ∀ (fp : List Addr) (C : Addr) (s2 s4 : Shared) (H2 H3 : Hp) (σ3 : St) (its : List Value) (ys : List V) (k : Nat), Inv X pins σ H2 s2 → (∀ b ∈ fp, FpOk X pins H2 b) → s2.heap.objs.size ≤ C → s2.heap.objs.size ≠ C → Inv (cxB X NB own scope C fp s2 H2) [] σ3 H3 s4 → H3 s2.heap.objs.size = none → s4.heap.get? s2.heap.objs.size = some { cls := .type "list", data := .seq its.toArray k } → Vals ys its → ys.length ≤ sizeLine → Q (.ref s2.heap.objs.size) (upd H3 s2.heap.objs.size (.lst ys)) →
      compPost (model X.prog X.w) X.A X.xe use QQ (.ref s2.heap.objs.size) C (.ok .next) s4) : wpAny (model X.prog X.w) X.A (comprehension (.ListComp elt [⟨tg, iter, ifs, 0⟩] scope pos) scope X.env pos2 (newList []) false (eval iter X.env) use) QQ X.xe s := by
  have hclos := closureFor_is (env := X.env) (scope := scope) fun y hy e => I0.ok.has y.1 (.inl (B.free y hy e))
  refine wpAny_comprehension_free (use := use) rfl hs hclos B.kind B.names (thn (hi pins s σ H _ I0 h) fun v s1 h1 => thn h1 fun itv s2 h2 => ?_)
  obtain ⟨it, fp, tn, J, H2, rfl, I, T, st2, f2, W, ⟨m0, w0⟩, turn⟩ := h2
  refine wpAny_newList ?_
  refine wpAny_newFunctionEnv B.nocell (by intro y hy; simp at hy) (fun h₁ hns₁ hsb₁ => ?_) B.kind
  dsimp only at hns₁ hsb₁ ⊢
  generalize hP : s2.heap.push { cls := .type "list", dict := none, data := .seq ([] : List Value).toArray } = P at hns₁ hsb₁ ⊢
  have hC : P.objs.size = s2.heap.objs.size + 1 := by rw [← hP, Heap.size_push]
  have hDC : s2.heap.objs.size ≠ P.objs.size := by rw [hC]; exact Nat.ne_of_lt (Nat.lt_succ_self _)
  have hCle : s2.heap.objs.size ≤ P.objs.size := by rw [hC]; exact Nat.le_succ _
  have old : ∀ b o, s2.heap.get? b = some o → h₁.get? b = some o := fun b o e => by
    refine (hsb₁.2 b ?_).trans (Heap.get?_push_of_some _ (hP ▸ Heap.get?_push_of_some _ e))
    exact Nat.ne_of_lt (Nat.lt_of_lt_of_le (Heap.lt_size e) hCle)
  have hD : h₁.get? s2.heap.objs.size = some { cls := .type "list", data := .seq ([] : List Value).toArray 0 } := by
    refine (hsb₁.2 _ hDC).trans (Heap.get?_push_of_some _ ?_)
    rw [← hP]
    exact Heap.get?_push_size _ rfl
  have hfs : ∀ b ∈ fp, ∃ o, s2.heap.get? b = some o := fun b hb => let ⟨o, e, _⟩ := T.obj _ _ st2 b hb; ⟨o, e⟩
  have st4 : tn 0 h₁ := T.keep _ _ _ st2 fun b _ o e => old b o e
  generalize htk : s2.toks + ([] : List (Str × Value)).length = tk4
  have I4 := B.start (C := P.objs.size) (tk := tk4) I f2 hfs hCle old hns₁ (htk ▸ Nat.le_add_right _ _)
  have fOk : ∀ {H' : Hp} {b : Addr} {ob : Obj}, b ∈ fp → H' b = none → FpOk (cxB X NB own scope P.objs.size fp s2 H2) [(s2.heap.objs.size, ob)] H' b := fun {H' b ob} hb hn => by
    obtain ⟨o, e⟩ := hfs b hb
    refine ⟨hn, (I4.ok.exf b hb).1, I4.ok.exfs b hb, .inl hb, (I4.ok.exf b hb).2, fun p hp => ?_⟩
    have ep : p = (s2.heap.objs.size, ob) := List.mem_singleton.mp (show p ∈ [(s2.heap.objs.size, ob)] from hp)
    rw [ep]
    exact fun z => absurd (Heap.lt_size e) (by rw [← z]; exact Nat.lt_irrefl _)
  have dnf : s2.heap.objs.size ∉ frs X.stack := fun z => by
    rcases List.mem_cons.mp (I.stkSub _ z) with z | z
    · exact absurd I.lt (by rw [← z]; exact Nat.lt_irrefl _)
    · exact I.nofs (Nat.le_refl _) z
  have I3D : ∀ {σ3 : St} {H3 : Hp} {s3 : Shared} {its : List Value} {k : Nat}, Inv (cxB X NB own scope P.objs.size fp s2 H2) [] σ3 H3 s3 → s3.heap.get? s2.heap.objs.size = some { cls := .type "list", data := .seq its.toArray k } → H3 s2.heap.objs.size = none →
      Inv (cxB X NB own scope P.objs.size fp s2 H2) [(s2.heap.objs.size, { cls := .type "list", data := .seq its.toArray k })] σ3 H3 s3 := fun I3 e n => I3.pins_of fun p hp => by
    have ep := List.mem_singleton.mp hp
    subst ep
    exact ⟨e, n, hDC, dnf, fun v z => by cases z⟩
  have ndf : s2.heap.objs.size ∉ fp := fun z => by
    obtain ⟨o, e⟩ := hfs _ z
    exact absurd (Heap.lt_size e) (Nat.lt_irrefl _)
  have nCD : ∀ x c, (cxB X NB own scope P.objs.size fp s2 H2).env.cells.lookup x = some c → c ≠ s2.heap.objs.size := fun x c e z => by
    obtain ⟨v, o, ho, _⟩ := I.cell x c (B.cells I.ok e).1
    rw [z] at ho
    exact absurd (Heap.lt_size ho) (Nat.lt_irrefl _)
  have loop : ∀ s₃ : Shared, s₃ = { s2 with heap := h₁, toks := tk4 } → codeAny (model X.prog X.w) X.A (.compLoop (.ListComp elt [⟨tg, iter, ifs, 0⟩] scope pos) 0 (.ref it) (.ref s2.heap.objs.size) (cxB X NB own scope P.objs.size fp s2 H2).env)
      (compPost (model X.prog X.w) X.A X.xe use QQ (.ref s2.heap.objs.size) P.objs.size) s₃ := by
    rintro s₃ rfl
    refine comp_loop (fun n s' => ∃ i σB H' ys its k, Inv (cxB X NB own scope P.objs.size fp s2 H2) [] σB H' s' ∧ tn i s'.heap ∧ (∀ b ∈ fp, H' b = none) ∧ s'.heap.get? s2.heap.objs.size = some { cls := .type "list", data := .seq (its : List Value).toArray k } ∧ Vals ys its ∧ H' s2.heap.objs.size = none ∧ W i n ys σB H') ?_ m0
      ⟨0, stB own cap σ, H2, [], [], 0, I4, st4, fun b hb => (f2 b hb).1, hD, .nil, I.hok.fresh (Nat.le_refl _), w0⟩
    rintro n s3 ⟨i, σ3, H3, ys, its, k, I3, st3, fr3, hD3, rv, hn3, w3⟩
    rcases turn i n ys σ3 H3 w3 with ⟨stop, hz, q⟩ | ⟨go, hz, step⟩
    · refine thn (T.done (cxB X NB own scope P.objs.size fp s2 H2) rfl rfl rfl hc i _ s3 σ3 H3 noE (I3D I3 hD3 hn3) (fun b hb => fOk hb (fr3 b hb)) st3 stop) fun r s4 zq1 => ?_
      obtain ⟨hr, I4'⟩ := zq1
      subst hr
      have hD4 : s4.heap.get? s2.heap.objs.size = some { cls := .type "list", data := .seq (its : List Value).toArray k } := (I4'.pin (s2.heap.objs.size, _) (List.mem_append_right _ (List.mem_singleton.mpr rfl))).1
      have I5 : Inv (cxB X NB own scope P.objs.size fp s2 H2) [] σ3 H3 s4 := I4'.pins_of fun p hp => absurd (show p ∈ ([] : List (Addr × Obj)) from hp) (by simp)
      exact fin fp _ s2 s4 H2 H3 σ3 its ys k I f2 hCle hDC I5 hn3 hD4 rv hz (q _ hn3)
    · refine thn (T.item (cxB X NB own scope P.objs.size fp s2 H2) rfl rfl rfl hc i _ s3 σ3 H3 noE (I3D I3 hD3 hn3) (fun b hb => fOk hb (fr3 b hb)) st3 go) fun r s4 zq2 => ?_
      obtain ⟨u, hr, h4⟩ := zq2
      subst hr
      refine thn h4 fun _ s5 zq3 => ?_
      obtain ⟨x, H5, I5, r5, y5, st5, fr5⟩ := zq3
      have I5' := I5.pinned (fun b hb => fOk hb (fr5 b hb)) (T.obj _ _ st5)
      refine thn (hg _ fp s2 H2 _ s5 σ3 H5 x u _ I5' r5 (step x H5 y5)) fun _ s6 zq4 => ?_
      obtain ⟨σ6, H6, I6, q6⟩ := zq4
      refine thn (ht _ fp s2 H2 _ s6 σ6 H6 _ I6 q6) fun b s7 zq5 => ?_
      obtain ⟨H7, I7, q7⟩ := zq5
      have pinned : ∀ {σ8 : St} {H8 : Hp} {s8 : Shared}, Inv (cxB X NB own scope P.objs.size fp s2 H2) ([(s2.heap.objs.size, { cls := .type "list", data := .seq (its : List Value).toArray k })] ++ pinsAt fp s5.heap) σ8 H8 s8 →
          tn (i + 1) s8.heap ∧ (∀ b ∈ fp, H8 b = none) ∧ s8.heap.get? s2.heap.objs.size = some { cls := .type "list", data := .seq (its : List Value).toArray k } ∧ H8 s2.heap.objs.size = none := fun {σ8 H8 s8} I8 => by
        refine ⟨T.keep _ _ _ st5 fun b hb o e => (I8.pin (b, o) (List.mem_append_right _ (List.mem_append_right _ (mem_pinsAt hb e)))).1, fun b hb => ?_, ?_, ?_⟩
        · obtain ⟨o, e, d⟩ := T.obj _ _ st5 b hb
          exact (I8.pin (b, o) (List.mem_append_right _ (List.mem_append_right _ (mem_pinsAt hb e)))).2.1
        · exact (I8.pin (s2.heap.objs.size, _) (List.mem_append_right _ (List.mem_append_left _ (List.mem_singleton.mpr rfl)))).1
        · exact (I8.pin (s2.heap.objs.size, _) (List.mem_append_right _ (List.mem_append_left _ (List.mem_singleton.mpr rfl)))).2.1
      have nopin : ∀ {pp : List (Addr × Obj)} {σ8 : St} {H8 : Hp} {s8 : Shared}, Inv (cxB X NB own scope P.objs.size fp s2 H2) pp σ8 H8 s8 → Inv (cxB X NB own scope P.objs.size fp s2 H2) [] σ8 H8 s8 := fun I8 => I8.pins_of fun p hp => absurd (show p ∈ ([] : List (Addr × Obj)) from hp) (by simp)
      cases b with
      | false =>
        rw [if_neg Bool.false_ne_true] at q7 ⊢
        obtain ⟨m', hm, w7⟩ := q7
        obtain ⟨p1, p2, p3, p4⟩ := pinned I7
        exact ⟨m', hm, i + 1, σ6, H7, ys, its, k, nopin I7, p1, p2, p3, rv, p4, w7⟩
      | true =>
        rw [if_pos rfl] at q7 ⊢
        refine thn (he _ fp s2 H2 _ s7 σ6 H7 _ I7 q7) fun yv s8 zq6 => ?_
        obtain ⟨y, H8, I8, r8, m', hm, w8⟩ := zq6
        obtain ⟨p1, p2, p3, p4⟩ := pinned I8
        refine call_meets F.slot_list_append ⟨_, p3, rfl⟩ F.entry_list_append (F.args_list_append_2 _ _) (PySem.list_append s2.heap.objs.size its.toArray k yv (by rw [List.size_toArray, ← rv.length]; omega)) ⟨p3, ?_⟩
        have q := PySem.IsL.update p3 fun a => a.push yv
        have ea : its.toArray.push yv = (its ++ [yv]).toArray := by simp
        rw [ea] at q
        have I9 : Inv (cxB X NB own scope P.objs.size fp s2 H2) [] σ6 H8 { s8 with heap := s8.heap.update s2.heap.objs.size (Obj.mapSeq fun a => a.push yv), toks := s8.toks } :=
          ((nopin I8).turned (it := s2.heap.objs.size) (fun b o hb e => (Heap.get?_update_other s8.heap _ (Ne.symm hb)).trans e) p4 hDC (.inr (Nat.le_refl _)) (fun x c e => nCD x c e) fun p hp => absurd (show p ∈ ([] : List (Addr × Obj)) from hp) (by simp)).up I8.low
        refine ⟨m', hm, i + 1, σ6, H8, ys ++ [y], its ++ [yv], _, I9, ?_, p2, q, rv.append (.cons r8 .nil), p4, w8⟩
        refine T.keep _ _ _ p1 fun b hb o e => (Heap.get?_update_other s8.heap _ ?_).trans e
        intro z
        rw [z] at ndf
        exact ndf hb
  exact codeAny_compStart_list (loop _ rfl) (T.self X.A 0 _ _ _ st4 (loop _ rfl))
theorem pe_comp {X : Cx} {elt iter tg : Expr} {ifs : List Expr} {scope : Scope} {pos : Pos} {NB own : List Str} {cap : List Nat} {wi : TI} {g : TG} {ti : TT} {te : TE} (B : Blk X scope NB own cap) (hc : X.calm = true) (hi : PI X tg iter wi)
    (hg : ∀ C fp s₀ H₀, PG (cxB X NB own scope C fp s₀ H₀) tg g) (ht : ∀ C fp s₀ H₀, PIf (cxB X NB own scope C fp s₀ H₀) ifs ti) (he : ∀ C fp s₀ H₀, PE (cxB X NB own scope C fp s₀ H₀) elt te)
    (hs : ∀ x, foldedSetIterable iter X.env x = pure x := by intro _; rfl) : PE X (.ListComp elt [⟨tg, iter, ifs, 0⟩] scope pos) (tComp own cap wi g ti te) := by
  intro pins s σ H Q I0 h
  rw [eval_ListComp]
  refine comp_gen (use := none) (QQ := EP X pins σ Q) B hc hi hg ht he hs I0 h fun fp C s2 s4 H2 H3 σ3 its ys k I f2 hCle hDC I5 hn3 hD4 rv hz q => ?_
  obtain ⟨mC, hnC, _⟩ := I5.loc
  exact ⟨mC, hnC, fun h'' sb => ⟨.ref s2.heap.objs.size, _, B.done I f2 hCle (Nat.le_refl _) hDC I5 hn3 hD4 rv hz sb, rfl, q⟩⟩

theorem comp_by {own : List Str} {cap : List Nat} {J : It} {g : TG} {ti : TT} {te : TE} {σ : St} {H : Hp} {Q : VK} (n : Nat) (Pv : Nat → List V → St → Hp → Prop) (h0 : Pv 0 [] (stB own cap σ) H) (hz : ∀ i ys σ H, i ≤ n → Pv i ys σ H → ys.length ≤ i) (hn : n ≤ sizeLine)
    (hgo : ∀ i ys σ H, i < n → Pv i ys σ H → J.go i H) (hst : ∀ ys σ H, Pv n ys σ H → J.stop n H)
    (hs : ∀ i ys σ H x H' (N : List V → St → Hp → Prop), i < n → Pv i ys σ H → J.yld i H x H' → (∀ ys' σ' H'', Pv (i + 1) ys' σ' H'' → N ys' σ' H'') → g x σ H' fun σ2 H2 => ti σ2 H2 fun b H3 => if b = true then te σ2 H3 fun y H4 => N (ys ++ [y]) σ2 H4 else N ys σ2 H3)
    (hd : ∀ ys σ H D, Pv n ys σ H → H D = none → Q (.ref D) (upd H D (.lst ys))) :
    CompW own cap g ti te Q σ J H := by
  refine ⟨fun i m ys σ H => m = n - i ∧ i ≤ n ∧ Pv i ys σ H, ⟨n, by simp, Nat.zero_le _, h0⟩, ?_⟩
  rintro i m ys σ H ⟨rfl, hi, p⟩
  have hl := hz i ys σ H hi p
  by_cases hlt : i < n
  · refine .inr ⟨hgo i ys σ H hlt p, by omega, fun x H' y => ?_⟩
    exact hs i ys σ H x H' (fun ys' σ' H'' => ∃ m', m' < n - i ∧ m' = n - (i + 1) ∧ i + 1 ≤ n ∧ Pv (i + 1) ys' σ' H'') hlt p y fun ys' σ' H'' q => ⟨n - (i + 1), by omega, rfl, hlt, q⟩
  · have e : i = n := by omega
    subst e
    exact .inl ⟨hst ys σ H p, by omega, fun D hD => hd ys σ H D p hD⟩
end L2
set_option Elab.async false
set_option linter.all false
set_option maxRecDepth 100000
namespace L2
open PySem PySem.Spec PyProof.Rows

noncomputable def Its (z : Str) : It := ⟨fun i _ => i < z.cps.size, fun i H x H' => H' = H ∧ ∃ c, z.cps[i]? = some c ∧ x = .str ⟨#[c]⟩, fun i _ => i = z.cps.size⟩
theorem turn_of_walks {P : Program} {w : World} {K : PySem.W.Frag} {tg : Expr} {it n : Nat} {Pv : Nat → Value → Prop} {st : Nat → Heap → Prop} {J : It} {T : String} {fl : Nat → Array Value}
    (W : ∀ A : Around, A.handled = none → Walks P w A it [it] [it] n Pv st) (hst : ∀ i h, st i h → ∃ o, h.get? it = some o ∧ o.cls = .type T ∧ o.data = .fields (fl i))
    (hT : ["enumerate", "zip", "dict_itemiterator", "dict_reverseitemiterator", "odict_iterator", "itertools.zip_longest", "itertools.pairwise"].contains T = false)
    (hgo : ∀ i H, J.go i H → i < n) (hstop : ∀ i H, J.stop i H → i = n) (hy : ∀ i H u, J.go i H → Pv i u → ∃ x, RelV x u ∧ J.yld i H x H)
    (hself : ∀ (A : Around) (i : Nat) (s : Shared) (Q : Value → Shared → Prop) (E : Value → Shared → Prop), st i s.heap → Q (.ref it) s → wpAny (model P w) A (pyIter (.ref it)) Q E s) : Turn P w K tg J [it] it st where
  mem := by simp
  obj := fun i h s b hb => by
    have e : b = it := by simpa using hb
    subst e
    obtain ⟨o, e, c, d⟩ := hst i h s
    exact ⟨o, e, fun v z => by rw [d] at z; cases z⟩
  keep := fun i h h' s k => (W {} rfl).frame i h h' s k
  item := by
    intro X hP hw hK hc i pins s σ H E I hf s0 hg
    subst hP hw hK
    obtain ⟨f0, f1, f2, f3, f4, f5⟩ := hf it (by simp)
    refine wt I.low ((W X.A (I.ok.hd hc)).item i s _ _ (hgo i H hg) s0 fun v h' tk hv st' kk hl => ?_)
    have I1 : Inv X pins σ H { s with heap := h', toks := tk } := (I.turned (fun b o hb e => kk b o (by simpa using hb) e) f0 f1 f3 f4 f5).up hl
    obtain ⟨o, e, c, d⟩ := hst _ _ st'
    obtain ⟨x, rx, yx⟩ := hy i H v hg hv
    exact ⟨v, rfl, go_of (s := { s with heap := h', toks := tk }) e c d hT ⟨x, H, I1, rx, yx, st', fun b hb => (hf b hb).1⟩⟩
  done := by
    intro X hP hw hK hc i pins s σ H E I hf s0 hg
    subst hP hw hK
    obtain ⟨f0, f1, f2, f3, f4, f5⟩ := hf it (by simp)
    have e := hstop i H hg
    subst e
    exact wt I.low ((W X.A (I.ok.hd hc)).done s _ _ s0 fun h' tk kk hl => ⟨rfl, (I.turned (fun b o hb e => kk b o (by simpa using hb) e) f0 f1 f3 f4 f5).up hl⟩)
  self := hself

section
variable {X : Cx} {tg : Expr}
noncomputable def iStr (tl : TE) : TI := fun σ H R => tl σ H fun x H1 => ∃ z, x = .str z ∧ R (Its z) H1
theorem its_yld {z : Str} {i : Nat} {H : Hp} {u : Value} (h : SignAt z i u) : ∃ x, RelV x u ∧ (Its z).yld i H x H := by
  obtain ⟨c, t, e, rfl⟩ := h
  exact ⟨.str ⟨#[c]⟩, ⟨t, rfl⟩, rfl, c, e, rfl⟩
theorem pi_str {l : Expr} {tl : TE} (hl : PE X l tl) : PI X tg l (iStr tl) := by
  intro pins s σ H R I h
  refine thn (hl pins s σ H _ I h) fun v s1 zq1 => ?_
  obtain ⟨x, H1, I1, r1, q1⟩ := zq1
  obtain ⟨z, rfl, q⟩ := q1
  obtain ⟨t, rfl⟩ := r1
  have fp : ∀ b ∈ [s1.heap.objs.size], FpOk X pins H1 b := fun b hb => by
    have e : b = s1.heap.objs.size := by simpa using hb
    subst e
    exact I1.fpOk (Nat.le_refl _) (I1.hok.fresh (Nat.le_refl _))
  cases ha : z.cps.all (· < 128)
  · refine wpAny_pyIter_wide ha ⟨s1.heap.objs.size, [s1.heap.objs.size], _, Its z, H1, rfl, (I1.kept (t' := s1.toks) fun b o e => Heap.get?_push_of_some _ e).up I1.low,
      turn_of_walks (T := "str_iterator") (fl := fun i => #[.str z t, .int i 0]) (fun A hh => Walks.strWide hh _ z t) (fun i h st => st) (by decide) (fun i H g => g) (fun i H g => g) (fun i H u _ hu => its_yld hu) (fun A i s Q E st h => wpAny_pyIter_striter_wide st h), ⟨_, Heap.get?_push_size _ rfl, rfl, rfl⟩, fp, q⟩
  · refine wpAny_pyIter_ascii ha ⟨s1.heap.objs.size, [s1.heap.objs.size], _, Its z, H1, rfl, (I1.kept (t' := s1.toks) fun b o e => Heap.get?_push_of_some _ e).up I1.low,
      turn_of_walks (T := "str_ascii_iterator") (fl := fun i => #[.str z t, .int i 0]) (fun A hh => Walks.strAscii hh _ z t) (fun i h st => st) (by decide) (fun i H g => g) (fun i H g => g) (fun i H u _ hu => its_yld hu) (fun A i s Q E st h => wpAny_pyIter_striter_ascii st h), ⟨_, Heap.get?_push_size _ rfl, rfl, rfl⟩, fp, q⟩

inductive rSlS (x : V) (lo : Option Int) (hi : Option Int) (H : Hp) (Q : VK) : Prop
  | mk : ∀ z, (x = .str z) → (z.length ≤ sizeLine) → (Q (.str (Txt.slice z lo hi)) H) → rSlS x lo hi H Q
theorem sl_str : SlR X rSlS := by
  intro pins s σ H x v vl vu lo hi sl Q I rx hs pl pu h
  obtain ⟨z, rfl, hz, q⟩ := h
  obtain ⟨t, rfl⟩ := rx
  have fin : ∀ (lo hi : Option Int), Q (.str (Txt.slice z lo hi)) H → ∀ t' k, EP X pins σ Q (.str (Txt.slice z lo hi) t') { s with toks := k } := fun lo hi q t' k => ⟨.str _, H, I.tok _, ⟨_, rfl⟩, q⟩
  refine ⟨"str", _, F.slot_str_getitem.lookup, typeIs_str _ _ _, ?_⟩
  cases pl with
  | none =>
    cases pu with
    | none => exact wpAny_getItem_str_slice (l := none) (u := none) (st := none) hs rfl (post_val_or_str ⟨Nat.le_trans (Txt.slice_le z _ _) hz, fun t' k => fin _ _ q t' k⟩)
    | int j uj => exact wpAny_getItem_str_slice (l := none) (u := some (j, uj)) (st := none) hs rfl (post_val_or_str ⟨Nat.le_trans (Txt.slice_le z _ _) hz, fun t' k => fin _ _ q t' k⟩)
  | int i ui =>
    cases pu with
    | none => exact wpAny_getItem_str_slice (l := some (i, ui)) (u := none) (st := none) hs rfl (post_val_or_str ⟨Nat.le_trans (Txt.slice_le z _ _) hz, fun t' k => fin _ _ q t' k⟩)
    | int j uj => exact wpAny_getItem_str_slice (l := some (i, ui)) (u := some (j, uj)) (st := none) hs rfl (post_val_or_str ⟨Nat.le_trans (Txt.slice_le z _ _) hz, fun t' k => fin _ _ q t' k⟩)

inductive rLower (x : V) (vs : List V) (H : Hp) (Q : VK) : Prop
  | mk : ∀ z, (x = .str z) → (vs = []) → (z.length ≤ 5592405) → (Q (.str (Txt.lower z)) H) → rLower x vs H Q
theorem mt_lower : MtR X "str.lower" rLower := by
  intro pins s σ H x vs v us Q I rx rv h
  obtain ⟨z, rfl, rfl, hz, q⟩ := h
  obtain ⟨t, rfl⟩ := rx
  cases rv
  exact SCL.lower hz fun _ => ⟨.str _, H, I.tok _, ⟨_, rfl⟩, q⟩
theorem strsAre_of : ∀ {ys : List Str} {us : List Value}, Vals (ys.map V.str) us → StrsAre us ys
  | [], _, r => by
    rw [List.map_nil] at r
    cases r
    exact .nil
  | y :: ys, us, r => by
    rw [List.map_cons] at r
    cases r with
    | cons r1 r2 =>
      obtain ⟨t, e⟩ := r1
      subst e
      exact .cons y t (strsAre_of r2)
inductive rJoin (K : PySem.W.Frag) (x : V) (vs : List V) (H : Hp) (Q : VK) : Prop
  | mk : ∀ z p ys, (x = .str z) → (vs = [.ref p]) → (SqL K H p (ys.map V.str)) → ((ys.map (·.length)).sum + ys.length * z.length ≤ 16777216) → (Q (.str (Txt.join z ys)) H) → rJoin K x vs H Q
theorem mt_join : MtR X "str.join" (rJoin X.K) := by
  intro pins s σ H x vs v us Q I rx rv h
  obtain ⟨z, p, ys, rfl, rfl, hq, hz, q⟩ := h
  obtain ⟨t, rfl⟩ := rx
  obtain ⟨u, rfl, ru⟩ := vals1 rv
  cases ru
  obtain ⟨its, r, pl, _⟩ := I.list hq
  exact join_list pl.isList (by simpa using strsAre_of r) hz fun t' k => ⟨.str _, H, I.tok _, ⟨_, rfl⟩, q⟩


end

end L2
set_option Elab.async false
set_option linter.all false
set_option maxRecDepth 100000
namespace PySem
open Sem (wp)
open Builtin Builtin.SmallTypes
namespace F
theorem lookup_str_reversed : typeLookup (.type "str") "__reversed__" = pure none := by rw [typeLookup_type, builtinLookup_eq_fast]; kernel_rfl
theorem slot_rvs_init : Slot "reversed" "__init__" "object.__init__" :=
  .of (owner := "object") (n := "__init__") (by rw [typeLookup_type, builtinLookup_eq_fast]; kernel_rfl) (by decide +kernel) (by decide +kernel) (by decide +kernel)
    (by first | exact .inl (by decide +kernel) | exact .inr (by decide +kernel)) (by rw [isSubtype_type]; kernel_rfl)
theorem called_rvs : TypeCalled "reversed" "reversed.__new__" "object.__init__" :=
  ⟨by decide +kernel, create_reversed, ⟨_, _, mro_reversed⟩, made_reversed, plain_reversed_new, sub_reversed_self, slot_rvs_init⟩
end F
set_option maxHeartbeats 1000000 in
theorem meets_rvs (x : Str) (t : Tok) : Meets (Builtin.«reversed.__new__» ⟨[.type "reversed", .str x t], []⟩) (fun _ R s => ¬ (x.length : Int) ≥ 2 ^ 63 ∧
      ∀ tk, R (.ok (.ret (.ref s.heap.objs.size))) { s with heap := s.heap.push { cls := .type "reversed", data := .fields #[.str x t, rawInt ((x.length : Int) - 1)] }, toks := tk }) :=
  .of_wp fun prog w A R s h => by
    obtain ⟨hx, h⟩ := h
    unfold Builtin.«reversed.__new__»
    refine wpAny_bind (wpAny_of_eq (newClass_reversed _) ?_)
    try dsimp only
    refine wpAny_bind (wpAny_of_eq (a := ()) (by first | rfl | kernel_rfl) ?_)
    refine wpAny_bind (wpAny_of_eq (a := ()) (by first | rfl | kernel_rfl) ?_)
    try dsimp only
    refine wpAny_bind (wpAny_specialOf (typeIs_str s x t) F.lookup_str_reversed ?_)
    try dsimp only
    refine wpAny_bind ?_
    have hl := F.slot_str_getitem.lookup
    have hT := typeIs_str s x t
    have hD : isSubtype (.type "str") (.type "dict") = pure false := by rw [isSubtype_type]; kernel_rfl
    repeat (any_goals (first | assumption | refine PySem.P.len_str hx ?_ | wp_step))
    exact ⟨_, rfl, h _⟩

noncomputable def Heap.IsRvs (h : Heap) (a : Addr) (x : Str) (t : Tok) (i : Int) : Prop := ∃ o, h.get? a = some o ∧ o.cls = .type "reversed" ∧ o.data = .fields #[.str x t, rawInt i]
theorem Heap.IsRvs.typeIs {s : Shared} {a : Addr} {x : Str} {t : Tok} {i : Int} (y : s.heap.IsRvs a x t i) : s.TypeIs (.ref a) "reversed" := let ⟨o, ho, hc, _⟩ := y; ⟨o, ho, hc⟩
namespace F
theorem slot_rvs_next : Slot "reversed" "__next__" "reversed.__next__" :=
  .of (owner := "reversed") (n := "__next__") (by rw [typeLookup_type, builtinLookup_eq_fast]; kernel_rfl) (by decide +kernel) (by decide +kernel) (by decide +kernel)
    (by first | exact .inl (by decide +kernel) | exact .inr (by decide +kernel)) (by rw [isSubtype_type]; kernel_rfl)
theorem entry_rvs_next : entryFor table "reversed.__next__" = some Builtin.«reversed.__next__» := entryFor_of_tree (by kernel_rfl)
theorem args_rvs_next (a : Value) : argsOk "reversed.__next__" ⟨[a], []⟩ := by unfold argsOk; kernel_rfl
theorem slot_rvs_iter : Slot "reversed" "__iter__" "reversed.__iter__" :=
  .of (owner := "reversed") (n := "__iter__") (by rw [typeLookup_type, builtinLookup_eq_fast]; kernel_rfl) (by decide +kernel) (by decide +kernel) (by decide +kernel)
    (by first | exact .inl (by decide +kernel) | exact .inr (by decide +kernel)) (by rw [isSubtype_type]; kernel_rfl)
theorem args_rvs_iter (a : Value) : argsOk "reversed.__iter__" ⟨[a], []⟩ := by unfold argsOk; kernel_rfl
theorem entry_rvs_iter : entryFor table "reversed.__iter__" = some Builtin.«dict_keyiterator.__iter__» :=
  entryFor_alias (id' := "dict_keyiterator.__iter__") (by kernel_rfl) rfl (by decide +kernel) (by kernel_rfl)
end F
section
variable {prog : Program} {w : World} {A : Around} {E : Value → Shared → Prop} {s : Shared} {x : Str} {t : Tok}
theorem call_rvs_str {Q : Value → Shared → Prop} (hx : ¬ (x.length : Int) ≥ 2 ^ 63)
    (h : ∀ tk, Q (.ref s.heap.objs.size) { s with heap := s.heap.push { cls := .type "reversed", data := .fields #[.str x t, rawInt ((x.length : Int) - 1)] }, toks := tk }) : wpAny (model prog w) A (call (.type "reversed") [.str x t]) Q E s :=
  callType_new F.called_rvs (by decide) (F.typeCall_reversed_1 _) (F.newCall_reversed_1 _) (fun obj => F.args_object_init_2 obj _) F.entry_reversed_new (meets_rvs x t) ⟨hx, fun tk => ⟨⟨_, Heap.get?_push_size _ rfl, rfl⟩, h tk⟩⟩
theorem iter_rvs {it : Addr} {i : Int} {Q : Value → Shared → Prop} (hit : s.heap.IsRvs it x t i) (h : Q (.ref it) s) : wpAny (model prog w) A (pyIter (.ref it)) Q E s := by
  refine wpAny_pyIter_slot hit.typeIs F.slot_rvs_iter (wpAny_call_entry F.slot_rvs_iter hit.typeIs F.entry_rvs_iter ?_ (F.args_rvs_iter _))
  show wpAny _ _ (ret (.ref it)) _ _ s
  exact wpAny_pure ⟨_, rfl, "reversed", _, hit.typeIs, F.slot_rvs_next.lookup, h⟩
theorem next_rvs_item {it : Addr} {i : Nat} {c : Nat} {Q : Option Value → Shared → Prop} (hit : s.heap.IsRvs it x t (i : Int)) (hx : x.cps[i]? = some c) (h63 : (i : Int) < 2 ^ 63)
    (hQ : ∀ h' tk u, h'.IsRvs it x t ((i : Int) - 1) → Heap.SameBut it s.heap h' → Q (some (.str ⟨#[c]⟩ u)) { s with heap := h', toks := tk }) : wpAny (model prog w) A (pyNext (.ref it)) Q E s := by
  obtain ⟨o, ho, hc, hd⟩ := id hit
  unfold pyNext
  refine wpAny_bind (wpAny_attempt (wpAny_callSpecial?_slot (name := Str.ofString "__next__") hit.typeIs F.slot_rvs_next
    (wpAny_call_entry F.slot_rvs_next hit.typeIs F.entry_rvs_next ?_ (F.args_rvs_next _))))
  unfold Builtin.«reversed.__next__»
  refine wpAny_bind (wpAny_of_eq (a := (Value.ref it, [])) rfl ?_)
  try dsimp only
  refine wpAny_bind (wpAny_field ho hd (x := .str x t) rfl ?_)
  refine wpAny_bind (wpAny_field ho hd (x := rawInt (i : Int)) rfl ?_)
  show wpAny _ _ (if (i : Int) < 0 then _ else _) _ _ s
  rw [if_neg (by omega)]
  refine wpAny_bind (wpAny_specialOf (typeIs_str s x t) F.slot_str_getitem.lookup ?_)
  show wpAny _ _ (if (some (Value.builtin "str.__getitem__")).isNone = true then _ else _) _ _ s
  rw [if_neg (by decide)]
  refine wpAny_bind (wpAny_mkInt ?_)
  have hlt : i < x.length := by
    have := Array.getElem?_eq_some_iff.mp hx
    exact this.1
  refine wpAny_bind (wpAny_attempt (PySem.P.getItem_str (c := c) ?_ ?_ ?_))
  · have e1 : decide ((i : Int) < -(2 ^ 63 : Int)) = false := decide_eq_false (by omega)
    have e2 : decide ((i : Int) ≥ 2 ^ 63) = false := decide_eq_false (by omega)
    rw [e1, e2, Bool.or_false]
  · rw [PySem.StrLaws.seqIndex_nonneg (by omega) (by omega)]
    simpa using hx
  try dsimp only
  refine wpAny_bind (wpAny_field ho hd (x := rawInt (i : Int)) rfl ?_)
  show wpAny _ _ (setField (.ref it) 1 (rawInt ((i : Int) - 1)) >>= _) _ _ _
  refine wpAny_bind (wpAny_setField ho hd (by simp) ?_)
  refine wpAny_pure ⟨_, rfl, wpAny_pure (hQ _ _ _ ?_ (Heap.SameBut.update ..))⟩
  exact ⟨_, Heap.get?_update_self _ ho (Obj.isFreed_of_fields (Obj.data_mapFields hd _)), (Obj.cls_mapFields ..).trans hc, by
    rw [Obj.data_mapFields hd]; simp⟩
theorem next_rvs_end {it : Addr} {Q : Option Value → Shared → Prop} (hh : A.handled = none) (hit : s.heap.IsRvs it x t (-1))
    (hQ : ∀ h', (∀ b o, b ≠ it → s.heap.get? b = some o → h'.get? b = some o) → Q none { s with heap := h' }) : wpAny (model prog w) A (pyNext (.ref it)) Q E s := by
  obtain ⟨o, ho, hc, hd⟩ := id hit
  unfold pyNext
  refine wpAny_bind (wpAny_attempt (wpAny_callSpecial?_slot (name := Str.ofString "__next__") hit.typeIs F.slot_rvs_next
    (wpAny_call_entry F.slot_rvs_next hit.typeIs F.entry_rvs_next ?_ (F.args_rvs_next _))))
  unfold Builtin.«reversed.__next__»
  refine wpAny_bind (wpAny_of_eq (a := (Value.ref it, [])) rfl ?_)
  try dsimp only
  refine wpAny_bind (wpAny_field ho hd (x := .str x t) rfl ?_)
  refine wpAny_bind (wpAny_field ho hd (x := rawInt (-1)) rfl ?_)
  show wpAny _ _ (if (-1 : Int) < 0 then _ else _) _ _ s
  rw [if_pos (by decide)]
  refine wpAny_bind (wpAny_rule ?_)
  refine wpAny_bind ?_
  show wpAny _ _ (setField (.ref it) 1 (rawInt (-1)) >>= fun _ => setField (.ref it) 0 .none) _ _ s
  refine wpAny_bind (wpAny_setField ho hd (by simp) ?_)
  have ho2 := Heap.get?_update_self (Obj.mapFields fun a => a.setIfInBounds 1 (rawInt (-1))) ho (Obj.isFreed_of_fields (Obj.data_mapFields hd _))
  have hd2 := Obj.data_mapFields hd fun a => a.setIfInBounds 1 (rawInt (-1))
  refine wpAny_setField ho2 hd2 (by simp) ?_
  generalize hh2 : (s.heap.update it _).update it _ = h2
  have kk : ∀ b o, b ≠ it → s.heap.get? b = some o → h2.get? b = some o := fun b o hb e => by
    rw [← hh2]
    exact (Heap.get?_update_other _ _ (Ne.symm hb)).trans ((Heap.get?_update_other _ _ (Ne.symm hb)).trans e)
  have hz : A.in1.handled = none := hh
  have sub := isSubtype_stop
  repeat (any_goals (first | assumption | wp_step))
  unfold raiseNew
  refine wpAny_bind (wpAny_handled ?_)
  rw [hz]
  refine wpAny_bind (wpAny_pure (wpAny_throw ?_))
  refine wpAny_bind (wpAny_isInstance (T := "StopIteration") (b := true) ?_ sub (wpAny_pure (hQ _ fun b o hb e => ?_)))
  · exact ⟨_, Heap.get?_push_size _ rfl, rfl⟩
  exact Heap.get?_push_of_some _ (Heap.get?_push_of_some _ (kk b o hb e))
theorem walks_rvs (hh : A.handled = none) (it : Addr) (x : Str) (t : Tok) (h63 : (x.cps.size : Int) < 2 ^ 63) :
    Walks prog w A it [it] [it] x.cps.size (fun i v => ∃ c u, x.cps[x.cps.size - 1 - i]? = some c ∧ v = .str ⟨#[c]⟩ u) (fun i h => i ≤ x.cps.size ∧ h.IsRvs it x t ((x.cps.size : Int) - 1 - (i : Int))) where
  sub := fun _ hb => hb
  frame := fun _ _ _ st hk => let ⟨l, o, ho, r⟩ := st; ⟨l, o, hk it (by simp) o ho, r⟩
  item := fun i s Q E hi y hQ => by
    have e : (x.cps.size : Int) - 1 - (i : Int) = ((x.cps.size - 1 - i : Nat) : Int) := by omega
    have hit := y.2
    rw [e] at hit
    have hx : x.cps[x.cps.size - 1 - i]? = some (x.cps[x.cps.size - 1 - i]'(by omega)) := Array.getElem?_eq_getElem (by omega)
    refine next_rvs_item hit hx (by omega) fun h' tk u hit' hs' => ?_
    have e2 : ((x.cps.size - 1 - i : Nat) : Int) - 1 = (x.cps.size : Int) - 1 - ((i + 1 : Nat) : Int) := by omega
    rw [e2] at hit'
    exact hQ _ h' tk ⟨_, u, hx, rfl⟩ ⟨hi, hit'⟩ fun b o hb eo => hs'.extBut b o (fun h => hb (by simp [h])) eo
  done := fun s Q E y hQ => by
    have e : (x.cps.size : Int) - 1 - (x.cps.size : Int) = -1 := by omega
    have hit := y.2
    rw [e] at hit
    exact next_rvs_end hh hit fun h' he' => hQ h' s.toks fun b o hb eo => he' b o (fun h => hb (by simp [h])) eo
  self := fun _ _ _ _ y hQ => iter_rvs y.2 hQ
end
end PySem

namespace L2
open PySem PySem.Spec PyProof.Rows
noncomputable def Itsr (z : Str) : It := ⟨fun i _ => i < z.cps.size, fun i H x H' => H' = H ∧ ∃ c, z.cps[z.cps.size - 1 - i]? = some c ∧ x = .str ⟨#[c]⟩, fun i _ => i = z.cps.size⟩
section
variable {X : Cx} {tg : Expr}
noncomputable def iStrR (ta : TA) : TI := fun σ H R => ta σ H fun vs H1 => ∃ z, vs = [.str z] ∧ z.length ≤ sizeLine ∧ R (Itsr z) H1
theorem pi_strR {a : Expr} {ta : TA} {p pos : Pos} (hg : Gl X "reversed") (hm : X.mg "reversed" = none) (hb : bootBuiltins "reversed" = some (.type "reversed")) (ha : PA X [a] ta) (hs : starEach [a] X.env = [(false, eval a X.env)] := by rfl) :
    PI X tg (.Call (.Name "reversed" p) [a] [] pos) (iStrR ta) := by
  intro pins s σ H R I h
  refine Call_ (ld_blt I hg hm hb (PyProof.Rows.callWith_type1 (thn (ha pos pins s σ H _ I h) fun us s1 zq1 => ?_) hs rfl))
  obtain ⟨vs, H1, I1, r1, q1⟩ := zq1
  obtain ⟨z, rfl, hz, q⟩ := q1
  obtain ⟨u, rfl, t, rfl⟩ := vals1 r1
  have hn := line63
  have hsz : z.cps.size = z.length := rfl
  refine wt I1.low (call_rvs_str (by omega) fun tk hl => ?_)
  have hit : Heap.IsRvs (s1.heap.push { cls := .type "reversed", data := .fields #[.str z t, rawInt ((z.length : Int) - 1)] }) s1.heap.objs.size z t ((z.length : Int) - 1) := ⟨_, Heap.get?_push_size _ rfl, rfl, rfl⟩
  refine iter_rvs (s := { s1 with heap := s1.heap.push { cls := .type "reversed", data := .fields #[.str z t, rawInt ((z.length : Int) - 1)] }, toks := tk }) hit ?_
  refine ⟨s1.heap.objs.size, [s1.heap.objs.size], _, Itsr z, H1, rfl, (I1.kept (t' := tk) fun b o e => Heap.get?_push_of_some _ e).up hl,
    turn_of_walks (T := "reversed") (fl := fun i => #[.str z t, rawInt ((z.cps.size : Int) - 1 - (i : Int))]) (fun A hh => walks_rvs hh _ z t (by omega)) (fun i h st => st.2) (by decide) (fun i H g => g) (fun i H g => g)
      (fun i H u _ ⟨c, t', e, eu⟩ => ⟨.str ⟨#[c]⟩, ⟨t', eu⟩, rfl, c, e, rfl⟩) (fun A i s Q E st h => iter_rvs st.2 h), ⟨Nat.zero_le _, by simpa [hsz] using hit⟩, fun b hb => ?_, q⟩
  have e : b = s1.heap.objs.size := by simpa using hb
  subst e
  exact I1.fpOk (Nat.le_refl _) (I1.hok.fresh (Nat.le_refl _))

structure DTx (K : PySem.W.Frag) (w : World) (a : Addr) : Prop where
  ob : ∃ (es : Array DictEntry) (n : Nat), K.lookup a = some ⟨.type "dict", none, .dict es n, #[]⟩ ∧ PySem.W.KeysLit w.params es.toList
theorem ix_kdict {a : Addr} (D : DTx X.K X.w a) : IxR X (fun x y H Q => ∃ z z' t, x = .ref a ∧ y = .str z ∧ PySem.W.nsIn X.K a z = some (some (.str z' t)) ∧ Q (.str z') H) := by
  intro value slice pins s σ H x y v u Q I rx ry h hs
  obtain ⟨z, z', t', rfl, rfl, e, q⟩ := h
  cases rx
  obtain ⟨t, rfl⟩ := ry
  obtain ⟨es, n, hl, hk⟩ := D.ob
  obtain ⟨m, F⟩ := I.fr
  exact PySem.W.topItem_K F I.ok.mod.kin hl hk e ⟨.str z', H, I.tok _, ⟨_, rfl⟩, q⟩ hs
noncomputable def tKGet_k1 (K : PySem.W.Frag) (a : Addr) (Q : VK) : V → Hp → Prop := fun y H1 => ∃ z z' t, y = .str z ∧ PySem.W.nsIn K a z = some (some (.str z' t)) ∧ Q (.str z') H1
noncomputable def tKGet (K : PySem.W.Frag) (a : Addr) (ti : TE) : TE := fun σ H Q => ti σ H (tKGet_k1 K a Q)
theorem pe_kget {K : PySem.W.Frag} {w : World} {a : Addr} {x : Str} {i : Expr} {ti : TE} {p pos : Pos} (D : DTx K w a) (hK : X.K = K) (hw : X.w = w) (hg : Gl X x) (hm : X.mg x = some (.ref a)) (hi : PE X i ti) (hs : PlainIx i)
    (hd : (x == ("__debug__" : Str)) = false := by decide) : PE X (.Subscript (.Name x p) i pos) (tKGet K a ti) := by
  subst hK hw
  intro pins s σ H Q I h
  refine Subscript_ (ld_glob I hg hm (thn (hi pins s σ H _ I h) fun u s2 zq2 => ?_) hd)
  obtain ⟨y, H2, I2, ry, z, z', t', e1, e2, q⟩ := zq2
  exact ix_kdict D _ _ pins s2 σ H2 (.ref a) y (.ref a) u Q I2 rfl ry ⟨z, z', t', rfl, e1, e2, q⟩ (hs _ _)
end
end L2
set_option linter.all false
namespace Wd
noncomputable abbrev L := Fin 12
noncomputable def inv (x : L) : L := if h : x.val < 6 then ⟨x.val + 6, by omega⟩ else ⟨x.val - 6, by omega⟩
theorem inv_inv : ∀ x : L, inv (inv x) = x := by decide
theorem inv_ne : ∀ x : L, inv x ≠ x := by decide
noncomputable def bk (w : List L) : List L := (w.map inv).reverse
theorem bk_length (w : List L) : (bk w).length = w.length := by simp [bk]
theorem bk_one (x : L) : bk [x] = [inv x] := rfl

noncomputable def push (st : List L) (x : L) : List L := match st with
  | [] => [x]
  | y :: r => if y = inv x then r else x :: y :: r
noncomputable def Rd : List L → Prop
  | [] => True
  | [_] => True
  | x :: y :: r => y ≠ inv x ∧ Rd (y :: r)
noncomputable def rep : Nat → List L → List L
  | 0, _ => []
  | n + 1, w => rep n w ++ w

end Wd
set_option Elab.async false
set_option linter.all false
set_option maxRecDepth 100000
namespace L2
open PySem PySem.Spec PyProof.Rows Wd

noncomputable def cp (x : L) : Nat := if x.val < 6 then 97 + x.val else 59 + x.val
theorem cp_lt : ∀ x : L, cp x < 128 := by decide
theorem cp_inj : ∀ x y : L, cp x = cp y → x = y := by decide
noncomputable def toS (w : List L) : Str := ⟨(w.map cp).toArray⟩
noncomputable def tx (w : List L) : V := .str (toS w)
theorem toS_cps (w : List L) : (toS w).cps.toList = w.map cp := by simp [toS]
theorem toS_length (w : List L) : (toS w).length = w.length := by simp [toS, Str.length]
theorem toS_size (w : List L) : (toS w).cps.size = w.length := by simp [toS]
theorem toS_append (u v : List L) : toS u ++ toS v = toS (u ++ v) := by
  apply Str.ext'
  rw [Str.cps_append]
  simp [toS]
theorem map_cp_inj : ∀ {u v : List L}, u.map cp = v.map cp → u = v
  | [], [], _ => rfl
  | [], _ :: _, h => by simp at h
  | _ :: _, [], h => by simp at h
  | x :: u, y :: v, h => by
    simp only [List.map_cons, List.cons.injEq] at h
    rw [cp_inj x y h.1, map_cp_inj h.2]
theorem toS_inj {u v : List L} (h : toS u = toS v) : u = v := by
  have : (toS u).cps.toList = (toS v).cps.toList := by rw [h]
  rw [toS_cps, toS_cps] at this
  exact map_cp_inj this
theorem toS_nil : toS [] = ("" : Str) := by decide +kernel
theorem tx_nil : tx [] = V.str ("" : Str) := congrArg V.str toS_nil
theorem small : toS [0, 1, 2, 3, 4, 5] = ("abcdef" : Str) := by decide +kernel
theorem big : toS [6, 7, 8, 9, 10, 11] = ("ABCDEF" : Str) := by decide +kernel

theorem sign_at {w : List L} {i c : Nat} (h : (toS w).cps[i]? = some c) : ∃ x, w[i]? = some x ∧ (⟨#[c]⟩ : Str) = toS [x] := by
  have h : ((w.map cp).toArray)[i]? = some c := h
  rw [List.getElem?_toArray, List.getElem?_map] at h
  cases e : w[i]? with
  | none => rw [e] at h; cases h
  | some x =>
    rw [e] at h
    have : cp x = c := Option.some.inj h
    exact ⟨x, rfl, by rw [← this]; rfl⟩

noncomputable def cutL (w : List L) (lo hi : Option Int) : List L := (w.drop (HT.sIx w.length 0 lo)).take (HT.sIx w.length w.length hi - HT.sIx w.length 0 lo)
theorem idx_gen (lo hi : Option Int) (n : Nat) : Builtin.Str.strSliceIndices lo hi 1 n = (List.range (HT.sIx n n hi - HT.sIx n 0 lo)).map (fun k => HT.sIx n 0 lo + k) := by
  have cl : ∀ v : Int, max (0 : Int) (min (if v < 0 then v + (n : Int) else v) (n : Int)) = (((if v < 0 then (v + (n : Int)).toNat else min v.toNat n) : Nat) : Int) := fun v => by
    by_cases hv : v < 0
    · simp only [if_pos hv]; omega
    · simp only [if_neg hv]; omega
  have fin : ∀ a b : Nat, sliceRange (a : Int) (b : Int) 1 = (List.range (b - a)).map (fun k => a + k) := fun a b => by
    unfold sliceRange
    simp only [show ((1 : Int) > 0) = True from by simp, if_true]
    by_cases hlt : (a : Int) < b
    · have e3 : (((b : Int) - a + 1 - 1) / 1).toNat = b - a := by first | omega | (simp; done) | (simp; omega)
      simp only [hlt, if_true, e3]
      exact List.map_congr_left fun k _ => by omega
    · have : b - a = 0 := by omega
      simp [hlt, this]
  unfold Builtin.Str.strSliceIndices
  simp only [show ((1 : Int) > 0) = True from by simp, if_true]
  cases lo with
  | none =>
    cases hi with
    | none => exact fin 0 n
    | some j => simp only [cl]; exact fin 0 _
  | some i =>
    cases hi with
    | none => simp only [cl]; exact fin _ n
    | some j => simp only [cl]; exact fin _ _
theorem slice_toS (w : List L) (lo hi : Option Int) : Txt.slice (toS w) lo hi = toS (cutL w lo hi) := by
  have h1 := HT.sIx_le w.length 0 (Nat.zero_le _) lo
  have h2 := HT.sIx_le w.length w.length (Nat.le_refl _) hi
  unfold Txt.slice
  rw [idx_gen, toS_length]
  split
  · rename_i h
    have hl : HT.sIx w.length w.length hi - HT.sIx w.length 0 lo = w.length := by simpa using h
    have e : cutL w lo hi = w := by
      unfold cutL
      rw [hl]
      have ha : HT.sIx w.length 0 lo = 0 ∨ w.length = 0 := by omega
      rcases ha with ha | ha
      · rw [ha, List.drop_zero, List.take_length]
      · have : w = [] := List.eq_nil_of_length_eq_zero ha
        subst this
        simp
    rw [e]
  · apply Str.ext'
    show (List.filterMap _ _).toArray = _
    have e := StrLaws.picks (w.map cp) (HT.sIx w.length w.length hi - HT.sIx w.length 0 lo) (HT.sIx w.length 0 lo)
    by_cases hle : HT.sIx w.length 0 lo ≤ HT.sIx w.length w.length hi
    · have e := e (by rw [List.length_map]; omega)
      have e2 : (fun k : Nat => (toS w).cps[k]?) = fun k : Nat => (w.map cp)[k]? := funext fun k => by simp [toS]
      rw [e2, e]
      simp [toS, cutL, List.map_take, List.map_drop]
    · have z : HT.sIx w.length w.length hi - HT.sIx w.length 0 lo = 0 := by omega
      rw [z]
      simp [toS, cutL, z]
theorem cut_to (w : List L) {n : Int} (h : 0 ≤ n) : cutL w none (some n) = w.take n.toNat := by
  obtain ⟨k, rfl⟩ := Int.eq_ofNat_of_zero_le h
  unfold cutL
  rw [HT.sIx_none, HT.sIx_nat, List.drop_zero, Nat.sub_zero, Int.toNat_natCast]
  by_cases hk : k ≤ w.length
  · rw [Nat.min_eq_left hk]
  · rw [Nat.min_eq_right (by omega), List.take_length, List.take_of_length_le (by omega)]
theorem cut_from (w : List L) {n : Int} (h : 0 ≤ n) : cutL w (some n) none = w.drop n.toNat := by
  obtain ⟨k, rfl⟩ := Int.eq_ofNat_of_zero_le h
  unfold cutL
  rw [HT.sIx_none, HT.sIx_nat, Int.toNat_natCast]
  by_cases hk : k ≤ w.length
  · rw [Nat.min_eq_left hk, List.take_of_length_le (by rw [List.length_drop]; omega)]
  · rw [Nat.min_eq_right (by omega), List.drop_length, List.drop_eq_nil_of_le (by omega)]
    simp

theorem lower_toS (w : List L) : Txt.lower (toS w) = ⟨((w.map cp).map lo1).toArray⟩ := by
  rw [lower_ascii fun c hc => by rw [toS_cps] at hc; obtain ⟨x, _, rfl⟩ := List.mem_map.mp hc; exact cp_lt x]
  simp [toS]
theorem join_one : ∀ w : List L, Txt.join ("" : Str) (w.map fun x => toS [x]) = toS w := by
  intro w
  have e0 : ("" : Str) = Str.empty := by decide +kernel
  unfold Txt.join
  rw [StrLaws.glued_eq_join, e0]
  induction w with
  | nil => rfl
  | cons x r ih =>
    cases r with
    | nil => rfl
    | cons y r =>
      show toS [x] ++ Str.empty ++ Str.join Str.empty ((y :: r).map fun x => toS [x]) = _
      rw [ih, Str.append_empty, toS_append]
      rfl
theorem sum_one (w : List L) : ((w.map fun x => toS [x]).map (·.length)).sum = w.length := by
  induction w with
  | nil => rfl
  | cons x r ih =>
    simp only [List.map_cons, List.sum_cons, List.length_cons]
    rw [ih, toS_length]
    simp only [List.length_singleton]
    omega
end L2
set_option Elab.async false
set_option linter.all false
set_option maxRecDepth 100000
namespace L2
open PySem PySem.Spec PyProof.Rows Wd

structure Fnc (P : Program) (w : World) (K : PySem.W.Frag) (mg : Str → Option Value) (base : Heap) (x : Str) (ps : List Str) (k : Nat) (sp : Sp) : Prop where
  ex : ∃ (f : Addr) (fd : FuncData), mg x = some (.ref f) ∧ PySem.W.keepIn K (.ref f) = true ∧ Binds K fd ps [] ∧ FnOk P w K mg base CX0 k f fd ps sp
theorem pe_fn {X : Cx} {x : Str} {ps : List Str} {k j : Nat} {sp : Sp} {e : Expr} {es : List Expr} {t : TA} {p pos : Pos} (F : Fnc X.prog X.w X.K X.mg X.base x ps j sp) (hr : Room k X.A) (hj : j ≤ k) (hg : Gl X x) (ha : PA X (e :: es) t)
    (hdb : (x == ("__debug__" : Str)) = false := by decide) (he : starEach (e :: es) X.env = (false, eval e X.env) :: starEach es X.env := by rfl) (hpl : (backTo pos (starEach es X.env)).any (·.1) = false := by rfl) :
    PE X (.Call (.Name x p) (e :: es) [] pos) (tCall sp [] E0 t) := by
  obtain ⟨f, fd, hm, hk, hb, F⟩ := F.ex
  exact pe_call F (hr.mono hj) hg hm hk hb .nil pass0 ha hdb he hpl
structure Df (K : PySem.W.Frag) (mg : Str → Option Value) (x : Str) (st : Stmt) : Prop where
  ex : ∃ (f : Addr) (fd : FuncData), mg x = some (.ref f) ∧ Fun K x x st f fd
theorem Df.ok {P : Program} {w : World} {K : PySem.W.Frag} {mg : Str → Option Value} {base : Heap} {x : Str} {st : Stmt} {N ps : List Str} {k : Nat} {sp : Sp} (D : Df K mg x st) (S : FnScope N ps (defScope st))
    (hb : ∀ (kV doc pm : Value) (an : Option Addr) (cdv ct : Value) (us : List Value), us.length = ps.length → bindArgs (PySem.W.fnOf x x (defArgs st) (defBody st) (defScope st) .none kV doc pm an cdv ct) ⟨us, []⟩ = pure (ps.zip us))
    (len : ∀ vs H Q E, sp vs H Q E → vs.length = ps.length)
    (hbody : ∀ (f : Addr) (cdv : Value) (A : Around) (outer : List Env) (s : Shared) (H : Hp) (vs : List V) (Q : VK) (E : XK), Room k (A.deeper (envOfC x (defScope st) s.heap.objs.size f cdv)) → sp vs H Q E →
      ∃ t, PSs (cxOf CX0 P w K mg base N x (defScope st) f cdv A outer s H E).nox (defBody st) t ∧ t { nx := fun _ H' => Q .non H', rt := Q } (start N vs) H) : Fnc P w K mg base x ps (k + 1) sp := by
  obtain ⟨f, fd, hm, F⟩ := D.ex
  exact ⟨f, fd, hm, F.kp, F.binds hb, F.ok S len fun cdv A outer s H vs Q E hr h => hbody f cdv A outer s H vs Q E hr h⟩

noncomputable def SameB (d : Addr) (H H' : Hp) : Prop := ∀ b o, b ≠ d → H b = some o → H' b = some o
theorem Same.b {d : Addr} {H H' : Hp} (a : Same H H') : SameB d H H' := fun b o _ h => a b o h
theorem Same.new {H : Hp} {a : Addr} {o : HO} (h : H a = none) : Same H (upd H a o) := fun b u e => by rw [upd_ne (ne_of_none e h)]; exact e
theorem SameB.upd {d : Addr} {H : Hp} {o : HO} : SameB d H (upd H d o) := fun b u n e => by rw [upd_ne n]; exact e
theorem Same.then {H H1 : Hp} {a : Addr} {o : HO} (s : Same H H1) (h : H1 a = none) : Same H (L2.upd H1 a o) := s.trans (Same.new h)

noncomputable def kS (x : Str) : Key := .inr x
noncomputable def fkv (c : Addr) (i l t : Int) : List (Key × V) := [(kS "cells", .ref c), (kS "at", .int i), (kS "left", .int l), (kS "turn", .int t)]
theorem n_ca : ¬ (kS "cells" = kS "at") := by decide +kernel
theorem n_cl : ¬ (kS "cells" = kS "left") := by decide +kernel
theorem n_ct : ¬ (kS "cells" = kS "turn") := by decide +kernel
theorem n_al : ¬ (kS "at" = kS "left") := by decide +kernel
theorem n_at : ¬ (kS "at" = kS "turn") := by decide +kernel
theorem n_lt : ¬ (kS "left" = kS "turn") := by decide +kernel
theorem valV_hit {κ : Type} [DecidableEq κ] {k : κ} {v : V} {r : List (κ × V)} : valV ((k, v) :: r) k = some v := by unfold valV; simp
theorem valV_skip {κ : Type} [DecidableEq κ] {k k' : κ} {v : V} {r : List (κ × V)} (h : ¬ k' = k) : valV ((k', v) :: r) k = valV r k := by unfold valV; simp [h]
theorem g_cells (c : Addr) (i l t : Int) : valV (fkv c i l t) (kS "cells") = some (.ref c) := valV_hit
theorem g_at (c : Addr) (i l t : Int) : valV (fkv c i l t) (kS "at") = some (.int i) := (valV_skip n_ca).trans valV_hit
theorem g_left (c : Addr) (i l t : Int) : valV (fkv c i l t) (kS "left") = some (.int l) := (valV_skip n_cl).trans ((valV_skip n_al).trans valV_hit)
theorem g_turn (c : Addr) (i l t : Int) : valV (fkv c i l t) (kS "turn") = some (.int t) := (valV_skip n_ct).trans ((valV_skip n_at).trans ((valV_skip n_lt).trans valV_hit))
theorem n_ta : ¬ (kS "turn" = kS "at") := fun e => n_at e.symm
theorem n_la : ¬ (kS "left" = kS "at") := fun e => n_al e.symm
theorem n_tl : ¬ (kS "turn" = kS "left") := fun e => n_lt e.symm
theorem p_at (c : Addr) (i l t z : Int) : putK (fkv c i l t) (kS "at") (.int z) = fkv c z l t := by simp [putK, fkv, n_ca, n_la, n_ta]
theorem p_left (c : Addr) (i l t z : Int) : putK (fkv c i l t) (kS "left") (.int z) = fkv c i z t := by simp [putK, fkv, n_cl, n_al, n_tl]
theorem p_turn (c : Addr) (i l t z : Int) : putK (fkv c i l t) (kS "turn") (.int z) = fkv c i l z := by simp [putK, fkv, n_ct, n_at, n_lt]
theorem fkv_len (c : Addr) (i l t : Int) : (fkv c i l t).length < sizeLine := by show 4 < sizeLine; decide
theorem m_fkv (c : Addr) (i l t : Int) : mergeK [] (fkv c i l t) = fkv c i l t := by simp [mergeK, putK, fkv, n_ca, n_cl, n_ct, n_al, n_at, n_lt]

structure Fd (H : Hp) (d : Addr) : Prop where
  ex : ∃ (c : Addr) (i l t : Int) (ns : List Int), H d = some (.dK (fkv c i l t)) ∧ H c = some (.lst (ns.map V.int)) ∧ ns ≠ [] ∧ ns.length ≤ 64
theorem Fd.same {H H' : Hp} {d : Addr} (F : Fd H d) (s : Same H H') : Fd H' d := by
  obtain ⟨c, i, l, t, ns, h1, h2, h3, h4⟩ := F.ex
  exact ⟨c, i, l, t, ns, s _ _ h1, s _ _ h2, h3, h4⟩
theorem Fd.new {H : Hp} {d a : Addr} {o : HO} (F : Fd H d) (h : H a = none) : Fd (upd H a o) d := F.same (Same.new h)
theorem Fd.ne {H : Hp} {d a : Addr} (F : Fd H d) (h : H a = none) : a ≠ d := by
  obtain ⟨c, i, l, t, ns, h1, h2, h3, h4⟩ := F.ex
  exact (ne_of_none h1 h).symm
theorem Fd.nl {H : Hp} {d a : Addr} {xs : List V} (F : Fd H d) (h : H a = some (.lst xs)) : a ≠ d := by
  obtain ⟨c, i, l, t, ns, h1, h2, h3, h4⟩ := F.ex
  exact ne_of h h1 (by intro z; cases z)
inductive spDraw (vs : List V) (H : Hp) (Q : VK) (u3_ : XK) : Prop
  | mk : ∀ (d : Addr) (m : Int), (vs = [.ref d, .int m]) → (Fd H d) → (0 < m) → (m < 1000000) → (∀ (r : Int) (H' : Hp), 0 ≤ r → r < m → Fd H' d → SameB d H H' → Q (.int r) H') → spDraw vs H Q u3_
inductive spFeed (K : PySem.W.Frag) (vs : List V) (H : Hp) (Q : VK) (u3_ : XK) : Prop
  | mk : ∀ (a : Addr) (ns : List Int), (vs = [.ref a]) → (SqL K H a (ns.map V.int)) → (ns.length ≤ 63) → (∀ (d : Addr) (H' : Hp), H d = none → Fd H' d → Same H H' → Q (.ref d) H') → spFeed K vs H Q u3_
theorem cell_at {ns : List Int} (h : ns ≠ []) (i : Int) : ∃ n : Int, atI (ns.map V.int) (i % ((ns.map V.int).length : Int)) = some (.int n) := by
  have hl : 0 < ns.length := List.length_pos_iff.mpr h
  rw [List.length_map]
  have h0 := Int.emod_nonneg i (show (ns.length : Int) ≠ 0 by omega)
  have h1 := Int.emod_lt_of_pos i (show (0 : Int) < ns.length by omega)
  obtain ⟨k, hk⟩ := Int.eq_ofNat_of_zero_le h0
  rw [hk] at h1 ⊢
  have hk' : k < ns.length := by omega
  refine ⟨ns[k], ?_⟩
  unfold atI ixN
  rw [if_pos (by omega), if_pos (by rw [List.length_map]; omega)]
  show (ns.map V.int)[((k : Nat) : Int).toNat]? = _
  rw [Int.toNat_natCast, List.getElem?_map, List.getElem?_eq_getElem hk']
  rfl
end L2
set_option Elab.async false
set_option linter.all false
set_option maxRecDepth 100000
namespace L2
open PySem PySem.Spec PyProof.Rows Wd
mutual
inductive Dt (H : Hp) : V → PyData → Prop where
  | non : Dt H .non .none
  | bl (b : Bool) : Dt H (.bl b) (.bool b)
  | int (i : Int) : Dt H (.int i) (.int i)
  | str (x : Str) : Dt H (.str x) (.str x)
  | lst {a : Addr} {xs : List V} {ds : List PyData} : H a = some (.lst xs) → Dts H xs ds → Dt H (.ref a) (.list ds)
  | tup {a : Addr} {xs : List V} {ds : List PyData} : H a = some (.tup xs) → Dts H xs ds → Dt H (.ref a) (.tuple ds)
inductive Dts (H : Hp) : List V → List PyData → Prop where
  | nil : Dts H [] []
  | cons {v : V} {d : PyData} {vs : List V} {ds : List PyData} : Dt H v d → Dts H vs ds → Dts H (v :: vs) (d :: ds)
end
section
variable {P : Program} {w : World} {H : Hp} {h : Heap}
mutual
theorem Dt.reads (ok : HOk P w H h) : ∀ {v : V} {d : PyData}, Dt H v d → ∀ {u : Value}, RelV v u → ∃ as, Reads h u d as
  | _, _, .non, u, r => by cases r; exact ⟨_, .none⟩
  | _, _, .bl b, u, r => by cases r; exact ⟨_, .bool b⟩
  | _, _, .int i, u, r => by obtain ⟨t, rfl⟩ := r; exact ⟨_, .int i t⟩
  | _, _, .str x, u, r => by obtain ⟨t, rfl⟩ := r; exact ⟨_, .str x t⟩
  | _, _, .lst e q, u, r => by
    cases r
    obtain ⟨_, its, n, rv, g⟩ := ok _ _ e
    obtain ⟨as, ra⟩ := Dts.reads ok q rv
    exact ⟨_, .list g rfl rfl (by simpa using ra)⟩
  | _, _, .tup e q, u, r => by
    cases r
    obtain ⟨_, its, rv, ⟨ob, g, c, n, d⟩, _⟩ := ok _ _ e
    obtain ⟨as, ra⟩ := Dts.reads ok q rv
    exact ⟨_, .tuple g c d (by simpa using ra)⟩
theorem Dts.reads (ok : HOk P w H h) : ∀ {vs : List V} {ds : List PyData}, Dts H vs ds → ∀ {us : List Value}, Vals vs us → ∃ as, ReadsAll h us ds as
  | _, _, .nil, _, r => by cases r; exact ⟨_, .nil⟩
  | _, _, .cons q qs, _, r => by
    cases r with
    | cons r rs =>
      obtain ⟨as, a1⟩ := Dt.reads ok q r
      obtain ⟨bs, a2⟩ := Dts.reads ok qs rs
      exact ⟨_, .cons a1 a2⟩
end
end
structure Sh (d : PyData) : Prop where
  sh : d.showable = true
  nd : d.hasDict = false
  dp : d.depth ≤ 10
  sz : d.shown.length ≤ sizeLine
section
variable {X : Cx}
inductive call_repr_dat_r  (xs : List V) (H : Hp) (Q : VK) : Prop
  | mk : ∀ a d, (xs = [.ref a]) → (Dt H (.ref a) d) → (Sh d) → (Q (.str d.shown) H) → call_repr_dat_r xs H Q
theorem call_repr_dat (hg : X.A.guards = some []) (hu : X.A.units + 64 < cLine) : CallR X (.builtin "repr") call_repr_dat_r := by
  intro pins s σ H xs us Q I r h
  obtain ⟨a, d, rfl, q, S, hQ⟩ := h
  obtain ⟨u, rfl, ru⟩ := vals1 r
  cases ru
  obtain ⟨as, rd⟩ := q.reads I.hok (u := .ref a) rfl
  refine repr_of_reads' rd S.sh (PyData.noDict_hsm S.nd) hg (by have := S.dp; omega) (fun _ _ e => e) (fun h' u tk hk => ?_) S.sz
  exact ⟨.str _, H, I.kept hk, ⟨_, rfl⟩, hQ⟩
end
noncomputable def Least (m : Str) (ys : List Str) : Prop := m ∈ ys ∧ ∀ y ∈ ys, m.cps.toList ≤ y.cps.toList
theorem least_rising : ∀ (r : List Str) (x : Str), risingS x r = true → Least x (x :: r)
  | [], x, _ => ⟨by simp, fun y hy => by rw [List.mem_singleton.mp hy]; exact List.le_refl _⟩
  | z :: r, x, h => by
    unfold risingS at h
    rw [Bool.and_eq_true] at h
    have h1 : x.cps.toList ≤ z.cps.toList := by
      have := h.1
      rw [ltCps_eq] at this
      exact List.not_lt.mp (by simpa using this)
    have ih := least_rising r z h.2
    refine ⟨by simp, fun y hy => ?_⟩
    rcases List.mem_cons.mp hy with e | hy
    · rw [e]; exact List.le_refl _
    · exact List.le_trans h1 (ih.2 y hy)
theorem vals_of_strs : ∀ {us : List Value} {ys : List Str}, StrsAre us ys → Vals (ys.map V.str) us
  | _, _, .nil => .nil
  | _, _, .cons y t r => .cons ⟨t, rfl⟩ (vals_of_strs r)
section
variable {X : Cx}
end
end L2
set_option Elab.async false
set_option linter.all false
set_option maxRecDepth 100000
set_option maxHeartbeats 0
namespace Kx
open PySem PySem.Spec PyProof.Rows L2 Wd
theorem b_list : bootBuiltins "list" = some (.type "list") := by kernel_rfl
theorem b_int : bootBuiltins "int" = some (.type "int") := by kernel_rfl
theorem b_repr : bootBuiltins "repr" = some (.builtin "repr") := by kernel_rfl
theorem b_sorted : bootBuiltins "sorted" = some (.builtin "sorted") := by kernel_rfl
theorem b_isinstance : bootBuiltins "isinstance" = some (.builtin "isinstance") := by kernel_rfl
theorem b_str : bootBuiltins "str" = some (.type "str") := by kernel_rfl
theorem b_reversed : bootBuiltins "reversed" = some (.type "reversed") := by kernel_rfl
structure Bt (K : PySem.W.Frag) (w : World) (mg : Str → Option Value) (aB : Addr) : Prop where
  len : mg "len" = none
  repr : mg "repr" = none
  abs : mg "abs" = none
  max : mg "max" = none
  int : mg "int" = none
  list : mg "list" = none
  range : mg "range" = none
  reversed : mg "reversed" = none
  min : mg "min" = none
  sorted : mg "sorted" = none
  tuple : mg "tuple" = none
  isinstance : mg "isinstance" = none
  all : mg "all" = none
  str : mg "str" = none
  zip : mg "zip" = none
  mgB : mg "BACKS" = some (.ref aB)
  dB : DTx K w aB
  gB : ∀ x : L, ∃ t, PySem.W.nsIn K aB (toS [x]) = some (some (.str (toS [inv x]) t))
theorem dg {H : Hp} {d : Addr} {kvs : List (Key × V)} {k : Str} {v : V} (h : H d = some (.dK kvs)) (e : valV kvs (kS k) = some v) : DGet H d (.str k) (some v) := by
  have q := DGet.k (k := kS k) h
  rw [e] at q
  exact q
theorem dp {H : Hp} {d : Addr} {kvs kvs' : List (Key × V)} {k : Str} {v : V} (h : H d = some (.dK kvs)) (hl : kvs.length < sizeLine) (e : putK kvs (kS k) v = kvs') : DPut H d (.str k) v (upd H d (.dK kvs')) := by
  have q := DPut.k (k := kS k) (v := v) h hl
  rw [e] at q
  exact q
theorem cut63 {ns : List Int} (h : ns.length ≤ 63) : cutV (ns.map V.int) none (some 63) = ns.map V.int := by
  unfold cutV
  have e : HT.sIx (ns.map V.int).length (ns.map V.int).length (some 63) = (ns.map V.int).length := by
    have := HT.sIx_nat (ns.map V.int).length (ns.map V.int).length 63
    rw [show ((63 : Nat) : Int) = 63 from rfl] at this
    rw [this, List.length_map]
    omega
  rw [e, HT.sIx_none, List.drop_zero, Nat.sub_zero, List.take_length]
noncomputable def ones (w : List L) : List V := w.map fun x => tx [x]
theorem ones_str (w : List L) : ones w = (w.map fun x => toS [x]).map V.str := by unfold ones; rw [List.map_map]; rfl
theorem ones_snoc (w : List L) (x : L) : ones w ++ [tx [x]] = ones (w ++ [x]) := by unfold ones; rw [List.map_append]; rfl
theorem ones_length (w : List L) : (ones w).length = w.length := by unfold ones; rw [List.length_map]
theorem join_ones (w : List L) : V.str (Txt.join ("" : Str) (w.map fun x => toS [x])) = tx w := congrArg V.str (join_one w)
theorem join_room (w : List L) (h : w.length ≤ 1000000) : ((w.map fun x => toS [x]).map (·.length)).sum + (w.map fun x => toS [x]).length * ("" : Str).length ≤ 16777216 := by
  have e : ("" : Str).length = 0 := by decide +kernel
  rw [e, sum_one]
  omega
theorem line16 : sizeLine = 16777216 := sizeLine_eq
inductive spBk (vs : List V) (H : Hp) (Q : VK) (u3_ : XK) : Prop
  | mk : ∀ w, (vs = [tx w]) → (w.length ≤ 5000) → (∀ H', Same H H' → Q (tx (bk w)) H') → spBk vs H Q u3_
theorem tx_app (u v : List L) : V.str (toS u ++ toS v) = tx (u ++ v) := congrArg V.str (toS_append u v)
noncomputable def sg (m : Int) : List L := ([0, 1, 2, 3, 4, 5] : List L).take m.toNat ++ ([6, 7, 8, 9, 10, 11] : List L).take m.toNat
theorem sg_length {m : Int} (h1 : 1 ≤ m) (h2 : m ≤ 6) : (sg m).length = 2 * m.toNat := by
  unfold sg
  rw [List.length_append, List.length_take, List.length_take]
  simp only [List.length_cons, List.length_nil]
  omega
theorem slice_sg {m : Int} (h1 : 1 ≤ m) : V.str (Txt.slice ("abcdef" : Str) none (some m) ++ Txt.slice ("ABCDEF" : Str) none (some m)) = tx (sg m) := by
  rw [← small, ← big, slice_toS, slice_toS, cut_to _ (by omega), cut_to _ (by omega), tx_app]
  rfl
theorem len_sm : ("abcdef" : Str).length = 6 := by decide +kernel
theorem len_bg : ("ABCDEF" : Str).length = 6 := by decide +kernel
theorem bk_get (u : List L) {i : Nat} {y : L} (hi : i < u.length) (h : u[u.length - 1 - i]? = some y) : (bk u)[i]? = some (inv y) := by
  unfold bk
  rw [List.getElem?_reverse (by rw [List.length_map]; exact hi), List.length_map, List.getElem?_map, h]
  rfl
theorem take_snoc {u : List L} {i : Nat} {x : L} (h : u[i]? = some x) : u.take (i + 1) = u.take i ++ [x] := by
  obtain ⟨hl, e⟩ := List.getElem?_eq_some_iff.mp h
  rw [List.take_add_one, h]
  rfl
theorem iteC {c : Bool} {A B : Prop} (hc : c = true) (h : A) : if c = true then A else B := by rw [if_pos hc]; exact h
theorem iteD {c : Bool} {A B : Prop} (hc : c = false) (h : B) : if c = true then A else B := by rw [hc]; exact iteF h
noncomputable def dws (ws : List (List L)) : List PyData := ws.map fun w => .str (toS w)
theorem dws_show : ∀ (ws : List (List L)), PyData.showableAll (dws ws) = true ∧ PyData.hasDictAll (dws ws) = false ∧ PyData.depthAll (dws ws) = 0 ∧ PyData.leavesShortAll 13 (dws ws) = true
  | [] => ⟨rfl, rfl, rfl, rfl⟩
  | w :: r => by
    obtain ⟨h1, h2, h3, h4⟩ := dws_show r
    refine ⟨?_, ?_, ?_, ?_⟩
    · show (PyData.showable (.str (toS w)) && PyData.showableAll (dws r)) = true
      rw [h1]; rfl
    · show (PyData.hasDict (.str (toS w)) || PyData.hasDictAll (dws r)) = false
      rw [h2]; rfl
    · show max (PyData.depth (.str (toS w))) (PyData.depthAll (dws r)) = 0
      rw [h3]; rfl
    · show (PyData.leavesShort 13 (.str (toS w)) && PyData.leavesShortAll 13 (dws r)) = true
      rw [h4, Bool.and_true]
      show ((toS w).cps.toList.all fun c => decide (c < 16 ^ 8)) = true
      rw [List.all_eq_true]
      intro c hc
      rw [toS_cps] at hc
      obtain ⟨x, _, rfl⟩ := List.mem_map.mp hc
      exact decide_eq_true (Nat.lt_of_lt_of_le (cp_lt x) (by decide))
end Kx
set_option Elab.async false
set_option linter.all false
set_option maxRecDepth 100000
namespace L2
open PySem PySem.Spec PyProof.Rows Wd
section
variable {X : Cx} {tg : Expr}
end

section
variable {X : Cx} {o e : Expr} {es : List Expr} {to : TE} {t : TA} {name : Str} {apos cpos : Pos} {T id : String} {r : V → List V → Hp → VK → Prop} {K : PySem.W.Frag}
end

end L2
set_option Elab.async false
set_option linter.all false
set_option maxRecDepth 100000
namespace L2
open PySem PySem.Spec PyProof.Rows Wd
section
variable {X : Cx}
inductive call_isinst_r (K : PySem.W.Frag) (xs : List V) (H : Hp) (Q : VK) : Prop
  | mk : ∀ x t b n, (xs = [x, .ty n]) → (TyOf K H x t) → (PySem.W.kitOne K t (.type n) = some b) → (Q (.bl b) H) → call_isinst_r K xs H Q
theorem call_isinst : CallR X (.builtin "isinstance") (call_isinst_r X.K) := by
  intro pins s σ H xs us Q I r h
  obtain ⟨x, t, b, n, rfl, ty, e, q⟩ := h
  obtain ⟨u, u2, rfl, rx, r2⟩ := vals2 r
  cases r2
  exact isinst_ok I rx ty e fun tk => ⟨.bl b, H, I.tok _, rfl, q⟩
inductive rIndex (x : V) (vs : List V) (H : Hp) (Q : VK) : Prop
  | mk : ∀ z y i rest, (x = .str z) → (vs = [.str y]) → (Builtin.Str.occurrences z y 0 z.length 1 = i :: rest) → (Q (.int (i : Nat)) H) → rIndex x vs H Q
theorem mt_index : MtR X "str.index" rIndex := by
  intro pins s σ H x vs v us Q I rx rv h
  obtain ⟨z, y, i, rest, rfl, rfl, ho, q⟩ := h
  obtain ⟨t, rfl⟩ := rx
  obtain ⟨u1, rfl, ⟨t1, rfl⟩⟩ := vals1 rv
  exact SC.index ho ⟨.int _, H, I.tok _, ⟨_, rfl⟩, q⟩
noncomputable def signs (z : Str) : List V := z.cps.toList.map fun c => .str ⟨#[c]⟩
theorem vals_signs {z : Str} {acc : Array Value} (h : ItemsOf (SignAt z) acc z.cps.size) : Vals (signs z) acc.toList := by
  have all : ∀ (cs : List Nat) (us : List Value), cs.length = us.length → (∀ (j : Nat) (v : Value), us[j]? = some v → ∃ c u, cs[j]? = some c ∧ v = .str ⟨#[c]⟩ u) → Vals (cs.map fun c => V.str ⟨#[c]⟩) us := by
    intro cs
    induction cs with
    | nil =>
      intro us hl _
      cases us with
      | nil => exact .nil
      | cons _ _ => simp at hl
    | cons c cs ih =>
      intro us hl hh
      cases us with
      | nil => simp at hl
      | cons u us =>
        obtain ⟨c', t, e1, e2⟩ := hh 0 u rfl
        have : c = c' := Option.some.inj e1
        subst this
        exact .cons ⟨t, e2⟩ (ih us (by simpa using hl) fun j v hj => hh (j + 1) v (by simpa using hj))
  refine all _ _ (by rw [Array.length_toList, Array.length_toList]; exact h.1.symm) fun j v hj => ?_
  obtain ⟨c, u, e1, e2⟩ := h.2 j v (by simpa using hj)
  exact ⟨c, u, by simpa using e1, e2⟩
inductive call_list_signs_r  (xs : List V) (H : Hp) (Q : VK) : Prop
  | mk : ∀ z, (xs = [.str z]) → (z.length ≤ sizeLine) → (∀ p, H p = none → Q (.ref p) (upd H p (.lst (signs z)))) → call_list_signs_r xs H Q
theorem call_list_signs (hc : X.calm = true) : CallR X (.type "list") call_list_signs_r := by
  intro pins s σ H xs us Q I r h
  obtain ⟨z, rfl, hz, q⟩ := h
  obtain ⟨u, rfl, t, rfl⟩ := vals1 r
  refine call_list_str (I.ok.hd hc) z t (fun h' tk acc' c' kp e hI => ?_) hz
  have hl : (signs z).length ≤ sizeLine := by unfold signs; rw [List.length_map, Array.length_toList]; exact hz
  exact ⟨.ref s.heap.objs.size, _, I.laid kp (Nat.le_refl _) (show ObjOk X.prog X.w _ h' _ (.lst (signs z)) from ⟨hl, acc'.toList, c', vals_signs hI, by simpa using e⟩), rfl, q _ (I.hok.fresh (Nat.le_refl _))⟩
theorem op_notIn_K {K : PySem.W.Frag} (hK : X.K = K) : OpR X (compareOp .NotIn) (rIn K true) := by
  subst hK
  exact op_notIn_seq
end
end L2
set_option Elab.async false
set_option linter.all false
set_option maxRecDepth 100000
namespace PySem
open Sem (wp)
section
variable {prog : Program} {w : World} {A : Around} {E : Value → Shared → Prop} {s : Shared} {z TI TO i1 i2 : Addr} {x y : Str} {t u : Tok} {k c d : Nat} {a b : Value}
end
end PySem
set_option Elab.async false
set_option linter.all false
set_option maxRecDepth 100000
namespace PySem
end PySem
namespace L2
open PySem PySem.Spec PyProof.Rows
section
variable {X : Cx}
theorem pg_tupK {K : PySem.W.Frag} {es : List Expr} {k : Nat} {t : TGs} {n : Nat} {pos : Pos} (hK : X.K = K) (hc : X.calm = true) (h : PGs X es t)
    (hn : (assignEach es X.env).length = n := by rfl) (hst : (assignEach es X.env).findIdx? (·.1) = none := by rfl) : PG X (.Tuple es k pos) (gTup K n t) := by
  subst hK
  exact pg_tup hc h hn hst
end
end L2
set_option Elab.async false
set_option linter.all false
set_option maxRecDepth 100000
set_option maxHeartbeats 0
namespace L2
open PySem PySem.Spec PyProof.Rows Wd
noncomputable def notStar : Expr → Bool
  | .Starred _ _ => false
  | _ => true
theorem star_of {e : Expr} (h : notStar e = true) (es : List Expr) (env : Env) : starEach (e :: es) env = (false, eval e env) :: starEach es env := by
  cases e <;> first | rfl | cases h
theorem pa_c {X : Cx} {e : Expr} {es : List Expr} {te : TE} {t : TA} (ha : PE X e te) (hr : PA X es t) (h : notStar e = true := by rfl) : PA X (e :: es) (tCons te t) := pa_cons ha hr (star_of h _ _)
theorem call_isK {X : Cx} {K : PySem.W.Frag} (hK : X.K = K) : CallR X (.builtin "isinstance") (call_isinst_r K) := by
  subst hK
  exact call_isinst
inductive Th (K : PySem.W.Frag) (H : Hp) : V → Prop
  | str (z : Str) (h : z.length ≤ 500) : Th K H (.str z)
  | oth {x : V} {n : String} (ty : TyOf K H x (.type n)) (e : PySem.W.kitOne K (.type n) (.type "str") = some false) (ns : ∀ z, x ≠ .str z) : Th K H x
theorem kit_str {K : PySem.W.Frag} : PySem.W.kitOne K (.type "str") (.type "str") = some true := by unfold PySem.W.kitOne; rw [if_pos (by rfl)]
noncomputable def letters : List Str := ([0, 1, 2, 3, 4, 5, 6, 7, 8, 9, 10, 11] : List L).map fun x => toS [x]
end L2
namespace Kx
open PySem PySem.Spec PyProof.Rows L2 Wd
inductive spNum (vs : List V) (H : Hp) (Q : VK) (u3_ : XK) : Prop
  | mk : ∀ (x : L), (vs = [tx [x]]) → (Q (.int ((x.val % 6 : Nat) : Int)) H) → spNum vs H Q u3_
theorem num_at : ∀ x : L, Builtin.Str.occurrences ("abcdef" : Str) (Txt.lower (toS [x])) 0 ("abcdef" : Str).length 1 = [x.val % 6] := by
  have q : ∀ x : L, Builtin.Str.occurrences ("abcdef" : Str) (⟨(([x].map cp).map lo1).toArray⟩ : Str) 0 ("abcdef" : Str).length 1 = [x.val % 6] := by decide +kernel
  intro x
  rw [lower_toS]
  exact q x
end Kx
set_option Elab.async false
set_option linter.all false
set_option maxRecDepth 100000
set_option maxHeartbeats 0
namespace L2
open PySem PySem.Spec PyProof.Rows Wd
section
variable {X : Cx}
inductive rNeNil (x : V) (y : V) (H : Hp) (Q : VK) : Prop
  | mk : ∀ a b xs, (x = .ref a) → (y = .ref b) → (H a = some (.lst xs)) → (H b = some (.lst [])) → (Q (.bl (!xs.isEmpty)) H) → rNeNil x y H Q
theorem op_ne_nil (hu : X.A.units + 64 < cLine) : OpR X (compareOp .NotEq) rNeNil := by
  intro pins s σ H x y v u Q I rx ry h
  obtain ⟨a, b, xs, rfl, rfl, ha, hb, q⟩ := h
  cases rx
  cases ry
  obtain ⟨its, n, rv, ea, _⟩ := I.lst ha
  obtain ⟨its2, n2, rv2, eb, _⟩ := I.lst hb
  cases rv2
  have hla : s.heap.IsList a its.toArray := ⟨_, ea, rfl, _, rfl⟩
  have hlb : s.heap.IsList b ([] : List Value).toArray := ⟨_, eb, rfl, _, rfl⟩
  cases xs with
  | nil =>
    cases rv
    refine EqBoolInt.of_rcne (SeqAt.RcNeAt.lists (e := fun _ => true) hla hlb rfl (by omega) (fun j hj => by simp at hj)) ?_
    exact ⟨.bl false, H, I, rfl, q⟩
  | cons z r =>
    cases rv with
    | cons r1 r2 =>
      refine EqBoolInt.of_rcne (SeqAt.RcNeAt.lists_lengths hla hlb (by simp) (by omega)) ?_
      exact ⟨.bl true, H, I, rfl, q⟩
end
end L2
namespace Kx
open PySem PySem.Spec PyProof.Rows L2 Wd
theorem s12 : toS [0, 1, 2, 3, 4, 5, 6, 7, 8, 9, 10, 11] = ("abcdefABCDEF" : Str) := by decide +kernel
end Kx
namespace L2
open PySem PySem.Spec PyProof.Rows Wd
theorem comp_list {K : PySem.W.Frag} {a : Addr} {xs : List V} {own : List Str} {cap : List Nat} {g : TG} {ti : TT} {te : TE} {σ : St} {H : Hp} {Q : VK} (Pv : Nat → List V → St → Hp → Prop) (h0 : Pv 0 [] (stB own cap σ) H) (hz : ∀ i ys σ H, i ≤ xs.length → Pv i ys σ H → ys.length ≤ i) (hn : xs.length ≤ sizeLine)
    (hl : ∀ i ys σ H, Pv i ys σ H → SqL K H a xs)
    (hs : ∀ i ys σ H x (N : List V → St → Hp → Prop), xs[i]? = some x → Pv i ys σ H → (∀ ys' σ' H'', Pv (i + 1) ys' σ' H'' → N ys' σ' H'') → g x σ H fun σ2 H2 => ti σ2 H2 fun b H3 => if b = true then te σ2 H3 fun y H4 => N (ys ++ [y]) σ2 H4 else N ys σ2 H3)
    (hd : ∀ ys σ H D, Pv xs.length ys σ H → H D = none → Q (.ref D) (upd H D (.lst ys))) :
    CompW own cap g ti te Q σ (Itl K a) H := by
  refine comp_by (J := Itl K a) xs.length Pv h0 hz hn (fun i ys σ H hi p => ⟨xs, xs[i], hl i ys σ H p, List.getElem?_eq_getElem hi⟩) (fun ys σ H p => ⟨xs, hl _ ys σ H p, Nat.le_refl _⟩) ?_ hd
  rintro i ys σ H x H' N hi p ⟨rfl, hx⟩ hN
  exact hs i ys σ _ x N (hx xs (hl i ys σ _ p)) p hN
end L2
namespace L2
open PySem PySem.Spec PyProof.Rows Wd
theorem pt_bl {X : Cx} {a : Expr} {ta : TE} (ha : PE X a ta) (he : ∀ whole, isTrue a X.env whole = (do let v ← whole; standAt a.pos; holding [v] (truthy v))) : PT X a (tTest ta) := by
  intro pins s σ H Q I h
  refine isTrue_plain (thn (ha pins s σ H _ I h) fun v s1 ⟨x, H1, I1, r1, q1⟩ => tru_ok pins s1 σ H1 x v Q I1 r1 ?_) (he _)
  obtain ⟨k, e, q⟩ := q1
  subst e
  exact ⟨k, rfl, q⟩
end L2
namespace L2
open PySem PySem.Spec PyProof.Rows Wd
end L2
namespace L2
open PySem PySem.Spec PyProof.Rows Wd
theorem Fd.neT {H : Hp} {d a : Addr} {xs : List V} (F : Fd H d) (h : H a = some (.tup xs)) : a ≠ d := by
  obtain ⟨c, i, l, t, ns, h1, h2, h3, h4⟩ := F.ex
  exact ne_of h h1 (by intro z; cases z)
end L2
namespace L2
open PySem PySem.Spec PyProof.Rows Wd
end L2
set_option Elab.async false
set_option linter.all false
set_option maxRecDepth 100000
namespace L2
open PySem PySem.Spec PyProof.Rows
theorem ps_setC {X : Cx} {i : Nat} {y : Str} {py spos : Pos} {elt iter tg : Expr} {ifs : List Expr} {scope : Scope} {pos : Pos} {NB own : List Str} {cap : List Nat} {wi : TI} {g : TG} {ti : TT} {te : TE} (hN : X.N.Nodup) (hi0 : X.N[i]? = some y) (hx : Loc X.env.scope y) (B : Blk X scope NB own cap) (hc : X.calm = true) (hi : PI X tg iter wi)
    (hg : ∀ C fp s₀ H₀, PG (cxB X NB own scope C fp s₀ H₀) tg g) (ht : ∀ C fp s₀ H₀, PIf (cxB X NB own scope C fp s₀ H₀) ifs ti) (he : ∀ C fp s₀ H₀, PE (cxB X NB own scope C fp s₀ H₀) elt te)
    (hs : ∀ x, foldedSetIterable iter X.env x = pure x := by intro _; rfl) (hsw : swapsWith (.ListComp elt [⟨tg, iter, ifs, 0⟩] scope pos) (some (.Name y py)) spos.line X.env = pure true := by rfl) (hf : X.fn y = true ∨ X.env.scope.names.lookup y = some .local := by first | exact .inl rfl | exact .inr rfl | assumption) : PS X (.Assign [.Name y py] (.ListComp elt [⟨tg, iter, ifs, 0⟩] scope pos) spos) (tAsg (tComp own cap wi g ti te) (gName i)) := by
  intro pins s σ H DD I0 h
  rw [exec_Assign_Name_used _ _ _ _ hsw]
  refine wpAny_bind (wpAny_standAt (wpAny_bind ?_))
  show wpAny _ X.A (do let _ ← comprehension (.ListComp elt [⟨tg, iter, ifs, 0⟩] scope pos) scope X.env _ (newList []) false (eval iter X.env) (some (assign (.Name y py) X.env))) _ _ s
  refine wpAny_bind (wpAny_mono (comp_gen (use := some (assign (.Name y py) X.env)) (QQ := fun _ s' => SP X pins DD .next s') (pos := pos) B hc hi hg ht he hs I0 h fun fp C s2 s4 H2 H3 σ3 its ys k I f2 hCle hDC I5 hn3 hD4 rv hz q => ?_) (fun _ s' hq => wpAny_pure (wpAny_pure hq)) fun _ _ e => e)
  obtain ⟨mC, hnC, _⟩ := I5.loc
  have I6 : Inv X pins σ (upd H3 s2.heap.objs.size (.lst ys)) s4 := (B.done (h'' := s4.heap) I f2 hCle (Nat.le_refl _) hDC I5 hn3 hD4 rv hz ⟨rfl, fun _ _ => rfl⟩).up I5.low
  obtain ⟨oC, es, ep, hoC, hdC, rC⟩ := hnC
  have hCn : (upd H3 s2.heap.objs.size (.lst ys)) C = none := by rw [upd_ne hDC.symm]; exact I5.free
  have nL : C ≠ X.env.locals := fun z => absurd I.lt (by rw [← z]; exact Nat.not_lt.mpr hCle)
  have I7 : Inv X (pins ++ [(C, oC)]) σ (upd H3 s2.heap.objs.size (.lst ys)) s4 := I6.pins_of fun p hp => by
    rcases List.mem_append.mp hp with z | z
    · exact I6.pin p (List.mem_append_right _ z)
    · have ep := List.mem_singleton.mp z
      subst ep
      exact ⟨hoC, hCn, nL, I.nofs hCle, fun v z => by rw [hdC] at z; cases z⟩
  refine thn (pg_name (pos := py) hN hi0 hx hf (pins ++ [(C, oC)]) s4 σ _ (.ref s2.heap.objs.size) (.ref s2.heap.objs.size) (fun σ' H' => DD.nx σ' H' ∧ H' = upd H3 s2.heap.objs.size (.lst ys)) I7 rfl ⟨q, rfl⟩) fun _ s5 zq2 => ?_
  obtain ⟨σ5, H5, I8, q5, e5⟩ := zq2
  subst e5
  have pC := (I8.pin (C, oC) (List.mem_append_right _ (List.mem_append_right _ (List.mem_singleton.mpr rfl)))).1
  refine ⟨mC, ⟨oC, es, ep, pC, hdC, rC⟩, fun h'' sb => ⟨σ5, _, ?_, q5⟩⟩
  have I9 : Inv X pins σ5 (upd H3 s2.heap.objs.size (.lst ys)) s5 := I8.pins_of fun p hp => I8.pin p (List.mem_append_right _ (List.mem_append_left _ hp))
  refine I9.turned (t' := s5.toks) (it := C) (fun b o hb e => (sb.2 b hb).trans e) hCn nL (.inr (Nat.le_trans I.sz hCle)) (fun x c e z => ?_) fun p hp z => ?_
  · obtain ⟨v, o, ho, _⟩ := I.cell x c e
    exact absurd (Heap.lt_size ho) (by rw [z]; exact Nat.not_lt.mpr hCle)
  · exact absurd (Heap.lt_size (I.pin p hp).1) (by rw [z]; exact Nat.not_lt.mpr hCle)

end L2
namespace L2
open PySem PySem.Spec PyProof.Rows Wd
theorem Fd.upd {H : Hp} {d l p : Addr} {o : HO} {xs : List V} (F : Fd H d) (h : H l = some (.lst xs)) (n : l ≠ d) (hx : .ref p ∈ xs) : Fd (L2.upd H l o) d := by
  obtain ⟨c, i, ll, t, ns, h1, h2, h3, h4⟩ := F.ex
  have hc : c ≠ l := fun e => by
    subst e
    rw [h2] at h
    have h := HO.lst.inj (Option.some.inj h)
    rw [← h] at hx
    obtain ⟨k, _, e⟩ := List.mem_map.mp hx
    cases e
  exact ⟨c, i, ll, t, ns, by rw [upd_ne n.symm]; exact h1, by rw [upd_ne hc]; exact h2, h3, h4⟩
end L2
set_option Elab.async false
set_option linter.all false
set_option maxRecDepth 100000
namespace PySem
open Sem (wp)
open AutoSeq1 (wpAny_loadPart')
section
variable {prog : Program} {w : World} {A : Around} {E : Value → Shared → Prop} {s : Shared}
end
end PySem
namespace L2
open PySem PySem.Spec PyProof.Rows Wd
section
variable {X : Cx}
end
end L2
set_option Elab.async false
set_option linter.all false
set_option maxRecDepth 100000
namespace PySem
open Sem (wp)
section
variable {prog : Program} {w : World} {A : Around} {E : Value → Shared → Prop} {s : Shared} {z TI TO i1 i2 : Addr} {k n1 n2 : Nat} {a b : Value} {fp1 fp2 : List Addr} {P1 P2 : Nat → Value → Prop} {S1 S2 : Nat → Heap → Prop}
end
end PySem
set_option Elab.async false
set_option linter.all false
set_option maxRecDepth 100000
namespace PySem
end PySem
namespace L2
open PySem PySem.Spec PyProof.Rows Wd
section
variable {X : Cx}
end
end L2
set_option Elab.async false
set_option linter.all false
set_option maxRecDepth 100000
namespace L2
open PySem PySem.Spec PyProof.Rows Wd
section
variable {X : Cx}
end
end L2
set_option Elab.async false
set_option linter.all false
set_option maxRecDepth 100000
set_option maxHeartbeats 0
namespace Kx
open PySem PySem.Spec PyProof.Rows L2 Wd
end Kx
namespace L2
open PySem PySem.Spec PyProof.Rows Wd
section
variable {X : Cx} {tg : Expr}
inductive rEqSs (x : V) (y : V) (H : Hp) (Q : VK) : Prop
  | mk : ∀ (a b : Addr) (ys zs : List Str), (x = .ref a) → (y = .ref b) → (H a = some (.lst (ys.map V.str))) → (H b = some (.lst (zs.map V.str))) → (ys.length = zs.length) → (Q (.bl (decide (ys = zs))) H) → rEqSs x y H Q
theorem strs_get : ∀ {ys : List Str} {us : List Value} {i : Nat} {v : Value}, Vals (ys.map V.str) us → us[i]? = some v → ∃ y t, ys[i]? = some y ∧ v = .str y t
  | [], us, i, v, r, h => by rw [List.map_nil] at r; cases r; simp at h
  | y :: ys, us, i, v, r, h => by
    rw [List.map_cons] at r
    cases r with
    | cons r1 r2 =>
      cases i with
      | zero => simp at h; subst h; obtain ⟨t, e⟩ := r1; exact ⟨y, t, rfl, e⟩
      | succ i => obtain ⟨y', t, e1, e2⟩ := strs_get (i := i) r2 (by simpa using h); exact ⟨y', t, by simpa using e1, e2⟩
theorem all_eq : ∀ (ys zs : List Str), ys.length = zs.length → ((List.range ys.length).all fun j => ys.getD j Str.empty == zs.getD j Str.empty) = decide (ys = zs)
  | [], [], _ => rfl
  | [], _ :: _, h => by cases h
  | _ :: _, [], h => by cases h
  | y :: ys, z :: zs, h => by
    have ih := all_eq ys zs (by simpa using h)
    rw [List.length_cons, List.range_succ_eq_map, List.all_cons, List.all_map]
    have e : ((fun j => (y :: ys).getD j Str.empty == (z :: zs).getD j Str.empty) ∘ Nat.succ) = fun j => ys.getD j Str.empty == zs.getD j Str.empty := by funext j; simp
    rw [e, ih]
    show ((y == z) && _) = _
    by_cases hyz : y = z <;> by_cases hs : ys = zs <;> simp [hyz, hs]
theorem op_eq_ss (hu : X.A.units + 64 < cLine) : OpR X (compareOp .Eq) rEqSs := by
  intro pins s σ H x y v u Q I rx ry h
  obtain ⟨a, b, ys, zs, rfl, rfl, ha, hb, hl, q⟩ := h
  cases rx
  cases ry
  obtain ⟨its, n, rv, ea, _⟩ := I.lst ha
  obtain ⟨its2, n2, rv2, eb, _⟩ := I.lst hb
  have l1 := rv.length
  have l2 := rv2.length
  rw [List.length_map] at l1 l2
  refine EqBoolInt.of_rc (SeqAt.RcAt.lists (e := fun j => ys.getD j Str.empty == zs.getD j Str.empty) (⟨_, ea, rfl, _, rfl⟩ : s.heap.IsList a its.toArray) (⟨_, eb, rfl, _, rfl⟩ : s.heap.IsList b its2.toArray) (by simp; omega) (by omega) (fun j h1 h2 => ?_)) ?_
  · have g1 : its[j]? = some its.toArray[j] := by simp
    have g2 : its2[j]? = some its2.toArray[j] := by simp
    obtain ⟨y1, t1, e1, e2⟩ := strs_get rv g1
    obtain ⟨y2, t2, e3, e4⟩ := strs_get rv2 g2
    rw [e2, e4]
    have e5 : ys.getD j Str.empty = y1 := by rw [List.getD_eq_getElem?_getD, e1]; rfl
    have e6 : zs.getD j Str.empty = y2 := by rw [List.getD_eq_getElem?_getD, e3]; rfl
    show SeqAt.EqAt _ _ _ _ (ys.getD j Str.empty == zs.getD j Str.empty)
    rw [e5, e6]
    exact SeqAt.EqAt.str_str y1 t1 y2 t2
  · have e : ((List.range its.toArray.size).all fun j => ys.getD j Str.empty == zs.getD j Str.empty) = decide (ys = zs) := by
      rw [List.size_toArray, ← l1]
      exact all_eq ys zs hl
    rw [e]
    exact ⟨.bl _, H, I, rfl, q⟩
end
end L2
namespace Kx
open PySem PySem.Spec PyProof.Rows L2 Wd
noncomputable def dV : V → PyData
  | .int i => .int i
  | .str z => .str z
  | _ => .none
end Kx
set_option Elab.async false
set_option linter.all false
set_option maxRecDepth 100000
namespace HT
open PySem PySem.Spec PyProof.Rows
section
variable {prog : Program} {w : World} {A : Around} {E : Value → Shared → Prop} {s : Shared}
end
end HT
namespace L2
open PySem PySem.Spec PyProof.Rows Wd
end L2
set_option Elab.async false
set_option linter.all false
set_option maxRecDepth 100000
namespace PySem
open Sem (wp)
section
variable {prog : Program} {w : World} {A : Around} {E : Value → Shared → Prop} {s : Shared}
section
variable {R : Result → Shared → Prop} {I : Addr} {fp wr : List Addr} {G : Array GenState → Array GenState → Prop} {n : Nat} {P : Nat → Value → Prop} {St : Nat → Shared → Prop}
end
end
end PySem
set_option Elab.async false
set_option linter.all false
set_option maxRecDepth 100000
namespace PySem
open Sem (wp)
section
variable {prog : Program} {w : World} {A : Around} {E : Value → Shared → Prop} {s : Shared}
end
end PySem
set_option Elab.async false
set_option linter.all false
set_option maxRecDepth 100000
namespace L2
open PySem PySem.Spec PyProof.Rows
theorem upd_idle {h : Heap} {T : Addr} {o : Obj} {f : Obj → Obj} (ho : h.get? T = some o) (hf : f o = o) (b : Addr) : (h.update T f).get? b = h.get? b := by
  by_cases e : T = b
  · subst e
    have := Heap.get?_update_self f ho (by rw [hf]; exact (Heap.get?_some_iff.mp ho).2)
    rw [this, hf, ho]
  · exact Heap.get?_update_other _ _ e
theorem map_idle {oT : Obj} {ts : Array Value} {i : Nat} {v : Value} (hd : oT.data = .fields ts) (h3 : ts[i]? = some v) : Obj.mapFields (·.setIfInBounds i v) oT = oT := by
  obtain ⟨c, d, dt, sl⟩ := oT
  simp only at hd
  subst hd
  obtain ⟨hi, hv⟩ := Array.getElem?_eq_some_iff.mp h3
  have : ts.setIfInBounds i v = ts := by
    apply Array.ext
    · simp
    · intro j h1 h2
      by_cases hj : i = j
      · subst hj; simp [hv]
      · rw [Array.getElem_setIfInBounds_ne _ hj]
  simp only [Obj.mapFields, this]

noncomputable def FltT (T : Addr) (h : Heap) (a : Addr) (fl : Value) : Prop :=
  ∃ oe vs oT ts, h.get? a = some oe ∧ oe.data = .fields vs ∧ vs[1]? = some (.ref T) ∧ T ≠ a ∧ h.get? T = some oT ∧ oT.data = .fields ts ∧ ts[3]? = some fl
noncomputable def Flt (h : Heap) (a : Addr) (fl : Value) : Prop := ∃ T, FltT T h a fl

structure Nts (fs : List Addr) (a : Addr) (fl : Value) (h h' : Heap) : Prop where
  keep : ∀ b o, b ∉ fs → b ≠ a → h.get? b = some o → h'.get? b = some o
  slot : ∀ b o, b ∈ fs → h.get? b = some o → ∃ sl, h'.get? b = some { o with slots := sl }
  exc : ∀ oe vs, h.get? a = some oe → oe.data = .fields vs → ∃ oe' vs', h'.get? a = some oe' ∧ oe'.cls = oe.cls ∧ oe'.dict = oe.dict ∧ oe'.data = .fields vs' ∧ vs'.size = vs.size ∧ vs'[2]? = vs[2]?
  fly : ∃ T, h.objs.size ≤ T ∧ FltT T h' a fl

section
variable {M : Model} {A : Around} {E : Value → Shared → Prop} {s : Shared}
set_option maxHeartbeats 1600000 in
theorem entryX {base : Heap} {env : Env} {outer : List Env} {L e : Addr} {oe : Obj} {vs : Array Value} {head : Value} {hadNext : Bool} {Q : Unit → Shared → Prop}
    (hfr : A.frames = some (env :: outer)) (hl : s.heap.FunFrames base (env :: outer)) (hf : env.frame = some L)
    (he : s.heap.get? e = some oe) (hd : oe.data = .fields vs) (hsz : 1 < vs.size)
    (h : ∀ h', Nts (frs (env :: outer)) e (rawInt L) s.heap h' → Q () { s with heap := h' }) :
    wpAny M A (do let a ← frameOf env; let pl ← entryPlaceOf L hadNext; let b ← EntryCells.newEntry head a .none (rawInt L) .none pl; setField (.ref e) 1 b) Q E s := by
  have hene : e ∉ frs (env :: outer) := fun hm => by
    obtain ⟨_, o, ho, hnf⟩ := hl.mem hm
    rw [he] at ho; injection ho with ho; subst ho; exact hnf vs hd
  refine wpAny_bind (wpAny_frameOf_fun hfr hl hf fun h₁ hs₁ => ?_)
  refine wpAny_bind (wpAny_entryPlaceOf fun pl hpl => ?_)
  unfold EntryCells.newEntry newFields
  refine wpAny_bind (wpAny_newObj_type ?_ (hpl.sizeOk5 _ _ _ _ _))
  generalize hN : ({ cls := .type "traceback", dict := none, data := .fields ([head, .ref L, .none, rawInt L, .none] ++ (if pl.isEmpty then List.replicate 6 Value.none else pl)).toArray } : Obj) = oN
  have hNd : oN.data = .fields ([head, .ref L, .none, rawInt L, .none] ++ (if pl.isEmpty then List.replicate 6 Value.none else pl)).toArray := by rw [← hN]
  have hNf : oN.isFreed = false := by rw [← hN]; rfl
  have he₁ : h₁.get? e = some oe := (hs₁.2.1 e hene).trans he
  have he₂ := Heap.get?_push_of_some (h := h₁) oN he₁
  refine wpAny_setField he₂ hd hsz (h _ ?_)
  have hTe : h₁.objs.size ≠ e := Nat.ne_of_gt (Heap.lt_size he₁)
  have hd₃ := Obj.data_mapFields hd (·.setIfInBounds 1 (Value.ref h₁.objs.size))
  have he₃ := Heap.get?_update_self (Obj.mapFields (·.setIfInBounds 1 (Value.ref h₁.objs.size))) he₂ (Obj.isFreed_of_fields hd₃)
  have hT₃ := (Heap.get?_update_other (h₁.push oN) (Obj.mapFields (·.setIfInBounds 1 (Value.ref h₁.objs.size))) (Ne.symm hTe)).trans (Heap.get?_push_size h₁ hNf)
  have keep : ∀ b o, b ≠ e → h₁.get? b = some o → ((h₁.push oN).update e (Obj.mapFields (·.setIfInBounds 1 (Value.ref h₁.objs.size)))).get? b = some o := fun b o hbe hb => by
    rw [Heap.get?_update_other _ _ (Ne.symm hbe)]
    exact Heap.get?_push_of_some _ hb
  refine ⟨fun b o hb hbe q => keep b o hbe ((hs₁.2.1 b hb).trans q), fun b o hb q => ?_, fun oe' vs' q qd => ?_, ?_⟩
  · obtain ⟨sl, q'⟩ := hs₁.2.2 b o q
    exact ⟨sl, keep b _ (fun z => hene (z ▸ hb)) q'⟩
  · rw [he] at q; cases q
    rw [hd] at qd; cases qd
    refine ⟨_, _, he₃, Obj.cls_mapFields _ _, ?_, hd₃, by simp, Array.getElem?_setIfInBounds_ne (by decide)⟩
    obtain ⟨c, d, dt, sl⟩ := oe
    cases dt <;> rfl
  · refine ⟨h₁.objs.size, Nat.le_of_eq hs₁.1.symm, _, _, oN, _, he₃, hd₃, by simp [hsz], hTe, hT₃, hNd, ?_⟩
    first | (simp; done) | (rcases hpl with rfl | ⟨_, _, _, _, _, _, _, rfl⟩ <;> simp)

theorem noteX {base : Heap} {env : Env} {outer : List Env} {L e : Addr} {oe : Obj} {vs : Array Value} {Q : Unit → Shared → Prop}
    (hfr : A.frames = some (env :: outer)) (hl : s.heap.FunFrames base (env :: outer)) (hf : env.frame = some L)
    (he : s.heap.get? e = some oe) (hd : oe.data = .fields vs) (h1 : vs[1]? = some .none ∨ Flt s.heap e .none)
    (h : ∀ h', Nts (frs (env :: outer)) e (rawInt L) s.heap h' → Q () { s with heap := h' }) : wpAny M A (noteFrame (.ref e) env) Q E s := by
  unfold noteFrame
  simp only [hf]
  rcases h1 with h1 | ⟨T, oe', vs', oT, ts, he', hd', h1, hTe, hT, hdT, h3⟩
  · refine wpAny_bind (wpAny_field he hd h1 ?_)
    rw [if_neg (by decide)]
    exact entryX hfr hl hf he hd (Array.getElem?_eq_some_iff.mp h1).1 h
  · rw [he] at he'; cases he'
    rw [hd] at hd'; cases hd'
    refine wpAny_bind (wpAny_field he hd h1 ?_)
    rw [if_pos (show (Value.ref T != Value.none) = true from by simp)]
    refine wpAny_bind (wpAny_field hT hdT h3 ?_)
    rw [if_neg (show ¬ ((Value.none == rawInt L) = true) from by simp [rawInt])]
    refine wpAny_bind (wpAny_setField hT hdT (Array.getElem?_eq_some_iff.mp h3).1 ?_)
    have idle := upd_idle (f := Obj.mapFields (·.setIfInBounds 3 Value.none)) hT (map_idle hdT h3)
    refine entryX hfr (hl.of_keeps fun b o hb _ => ⟨o, (idle b).trans hb, rfl⟩) hf ((idle e).trans he) hd (Array.getElem?_eq_some_iff.mp h1).1 fun h' N => h h' ?_
    obtain ⟨k1, k2, k3, k4⟩ := N
    refine ⟨fun b o hb hbe q => k1 b o hb hbe ((idle b).trans q), fun b o hb q => k2 b o hb ((idle b).trans q), fun o v q d => k3 o v ((idle e).trans q) d, ?_⟩
    obtain ⟨T', b1, b2⟩ := k4
    exact ⟨T', Nat.le_trans (Nat.le_of_eq (Heap.size_after_update ..).symm) b1, b2⟩

theorem flightX {T e : Addr} {fl : Value} {Q : Unit → Shared → Prop} (hF : FltT T s.heap e fl)
    (h : ∀ h', FltT T h' e .none → (∀ b o, b ≠ T → s.heap.get? b = some o → h'.get? b = some o) → (∀ b, (∃ o, s.heap.get? b = some o) → ∃ o, h'.get? b = some o) → (fl = .none → ∀ b, h'.get? b = s.heap.get? b) → Q () { s with heap := h' }) :
    wpAny M A (setFlight (.ref e) none) Q E s := by
  obtain ⟨oe, vs, oT, ts, he, hd, h1, hTe, hT, hdT, h3⟩ := hF
  have hsz3 : 3 < ts.size := (Array.getElem?_eq_some_iff.mp h3).1
  have other : ∀ b, b ≠ T → (s.heap.update T (Obj.mapFields (·.setIfInBounds 3 ((none : Option Addr).elim Value.none fun f => rawInt f)))).get? b = s.heap.get? b :=
    fun b hb => Heap.get?_update_other _ _ (Ne.symm hb)
  have hT' := Heap.get?_update_self (Obj.mapFields (·.setIfInBounds 3 ((none : Option Addr).elim Value.none fun f => rawInt f))) hT (Obj.isFreed_of_fields (Obj.data_mapFields hdT _))
  unfold setFlight
  refine wpAny_bind (wpAny_field he hd h1 ?_)
  rw [if_pos (show (Value.ref T != Value.none) = true from by simp)]
  refine wpAny_setField hT hdT hsz3 (h _ ⟨oe, vs, _, _, (other e (Ne.symm hTe)).trans he, hd, h1, hTe, hT', Obj.data_mapFields hdT _, by simp [hsz3]⟩ (fun b o hb q => (other b hb).trans q) (fun b ⟨o, q⟩ => ?_) fun z b => ?_)
  · by_cases z : b = T
    · subst z; exact ⟨_, hT'⟩
    · exact ⟨o, (other b z).trans q⟩
  · subst z
    exact upd_idle hT (map_idle hdT h3) b

theorem leaveX {base : Heap} {env : Env} {outer : List Env} {L e : Addr} {oe : Obj} {vs : Array Value} {Q : Unit → Shared → Prop}
    (hfr : A.frames = some (env :: outer)) (hl : s.heap.FunFrames base (env :: outer)) (hf : env.frame = some L)
    (he : s.heap.get? e = some oe) (hd : oe.data = .fields vs) (h1 : vs[1]? = some .none ∨ Flt s.heap e .none)
    (h : ∀ h', Nts (frs (env :: outer)) e .none s.heap h' → Q () { s with heap := h' }) : wpAny M A (leaving env (.ref e)) Q E s := by
  unfold leaving
  refine wpAny_bind (noteX hfr hl hf he hd h1 fun h₁ N => ?_)
  obtain ⟨k1, k2, k3, T, hT, k4⟩ := N
  refine flightX (s := { s with heap := h₁ }) k4 fun h₂ f1 f2 f3 _ => h h₂ ⟨fun b o hb hbe q => f2 b o (fun z => ?_) (k1 b o hb hbe q), fun b o hb q => ?_, fun oe vs q qd => ?_, T, hT, f1⟩
  · exact absurd (Nat.lt_of_lt_of_le (Heap.lt_size q) (z ▸ hT)) (Nat.lt_irrefl _)
  · obtain ⟨sl, q'⟩ := k2 b o hb q
    exact ⟨sl, f2 b _ (fun z => absurd (Nat.lt_of_lt_of_le (Heap.lt_size q) (z ▸ hT)) (Nat.lt_irrefl _)) q'⟩
  · obtain ⟨oe', vs', q1, q2⟩ := k3 oe vs q qd
    exact ⟨oe', vs', f2 e _ (fun z => absurd (Nat.lt_of_lt_of_le (Heap.lt_size q) (z ▸ hT)) (Nat.lt_irrefl _)) q1, q2⟩
end
end L2
set_option Elab.async false
set_option linter.all false
set_option maxRecDepth 100000
namespace L2
open PySem PySem.Spec PyProof.Rows
noncomputable def exo (a C : Addr) (d : Option Addr) (b c : Bool) : Heap → Prop := fun h =>
  ∃ oe vs, h.get? a = some oe ∧ oe.cls = .ref C ∧ oe.dict = d ∧ oe.data = .fields vs ∧ vs.size = 6 ∧ (b = true → vs[1]? = some .none) ∧ (c = true → vs[2]? = some .none)
noncomputable abbrev Exo (a C : Addr) (d : Option Addr) (b : Bool) (c : Bool := false) : HO := .ext (exo a C d b c)
theorem exo_stay {a C : Addr} {d : Option Addr} {b c : Bool} {h1 h2 : Heap} (x : exo a C d b c h1) (k : ∀ o, h1.get? a = some o → h2.get? a = some o) : exo a C d b c h2 :=
  let ⟨oe, vs, q, r⟩ := x; ⟨oe, vs, k _ q, r⟩
theorem exo_ok {P : Program} {w : World} {H : Hp} {h : Heap} {a C : Addr} {d : Option Addr} {b c : Bool} (x : exo a C d b c h) : ObjOk P w H h a (Exo a C d b c) :=
  ⟨x, let ⟨oe, _, q, _⟩ := x; ⟨oe, q⟩, fun _ _ y k => exo_stay y k⟩
theorem upd_idem {H : Hp} {a : Addr} {o : HO} (h : H a = some o) : upd H a o = H := by
  funext b
  by_cases e : b = a
  · subst e; rw [upd_same, h]
  · rw [upd_ne e]

noncomputable def CXe (P : Program) (w : World) : CXT := fun outer H s E e s' =>
  ∃ a C d c H', e = .ref a ∧ s'.os = s.os ∧ AllBare s'.gens ∧ Un (frs outer) [] H H' s.heap s'.heap ∧ HOk P w H' s'.heap ∧ H' a = some (Exo a C d false c) ∧ Flt s'.heap a .none ∧ E (.ref a) none H'


section
variable {P : Program} {w : World} {H : Hp} {h h' : Heap} {fs : List Addr} {e C : Addr} {d : Option Addr} {b cx : Bool} {fl : Value}
theorem nts_un (ok : HOk P w H h) (he : H e = some (Exo e C d b cx)) (hfs : ∀ c ∈ fs, H c = none) (N : Nts fs e fl h h') :
    Un fs [] H (upd H e (Exo e C d false cx)) h h' ∧ HOk P w (upd H e (Exo e C d false cx)) h' := by
  obtain ⟨⟨oe, vs, g1, g2, g3, g4, g5, g6, g7⟩, _, _⟩ := ok e _ he
  obtain ⟨oe', vs', n1, n2, n3, n4, n5, n6⟩ := N.exc oe vs g1 g4
  have hx : exo e C d false cx h' := ⟨oe', vs', n1, n2.trans g2, n3.trans g3, n4, n5.trans g5, (fun z => by cases z), fun z => n6.trans (g7 z)⟩
  have ne : ∀ c, H c = none → c ≠ e := fun c n z => by rw [z, he] at n; cases n
  have ne' : ∀ c u, H c = some u → u ≠ Exo e C d b cx → c ≠ e := fun c u q n z => by rw [z, he] at q; cases q; exact n rfl
  refine ⟨⟨fun c o q n hc _ => N.keep c o hc (ne c n) q, fun c o q n hc _ => N.slot c o hc q, fun c o q n _ => by rw [upd_ne (ne c n)]; exact n, fun c o q _ => ?_,
    fun c xs q => by rw [upd_ne (ne' c _ q (by intro z; cases z))]; exact q, fun c o u q => by rw [upd_ne (ne' c _ q (by intro z; cases z))]; exact q, fun c ps q => ⟨#[], by rw [upd_ne (ne' c _ q (by intro z; cases z)), q]; simp⟩⟩, fun c u q => ?_⟩
  · by_cases z : c = e
    · subst z; exact ⟨_, n1⟩
    · by_cases y : c ∈ fs
      · obtain ⟨sl, r⟩ := N.slot c o y q
        exact ⟨_, r⟩
      · exact ⟨o, N.keep c o y z q⟩
  · by_cases z : c = e
    · subst z; rw [upd_same] at q; cases q; exact exo_ok hx
    · rw [upd_ne z] at q
      refine (ok c u q).stay (fun x v hx q' => ?_) (fun x hx => by rw [upd_ne (ne' x _ hx (by intro z; cases z))]; exact hx) fun x xs hx => by rw [upd_ne (ne' x _ hx (by intro z; cases z))]; exact hx
      have nx : x ≠ e := by
        rcases hx with rfl | hx
        · exact z
        · exact ne' x _ hx (by intro z; cases z)
      refine N.keep x v (fun y => ?_) nx q'
      have := hfs x y
      rcases hx with rfl | hx
      · rw [this] at q; cases q
      · rw [this] at hx; cases hx
end

noncomputable def Raises (X : Cx) (E : XK) : Prop := ∀ (pins : List (Addr × Obj)) (σ : St) (H : Hp) (s : Shared) (a C : Addr) (d : Option Addr) (c : Bool), InvW X pins σ H s → H a = some (Exo a C d true c) → E (.ref a) none (upd H a (Exo a C d false c)) → X.xe (.ref a) s

section
variable {P : Program} {w : World} {K : PySem.W.Frag} {mg : Str → Option Value} {base : Heap} {N : List Str} {qual : Str} {scope : Scope} {f : Addr} {cd : Value} {A : Around} {outer : List Env} {s : Shared} {H : Hp} {E : XK}
theorem leave_def {pins : List (Addr × Obj)} {σ : St} {H1 : Hp} {s1 : Shared} {a C : Addr} {d : Option Addr} {b c : Bool} (I : InvW (cxOf (CXe P w) P w K mg base N qual scope f cd A outer s H E) pins σ H1 s1)
    (ha : H1 a = some (Exo a C d b c)) (hf : b = true ∨ Flt s1.heap a .none) (hE : E (.ref a) none (upd H1 a (Exo a C d false c))) : (cxOf (CXe P w) P w K mg base N qual scope f cd A outer s H E).xe (.ref a) s1 := by
  obtain ⟨⟨oe, vs, g1, g2, g3, g4, g5, g6, _⟩, _, _⟩ := I.hok a _ ha
  refine leaveX (base := base) (outer := outer) I.ok.frames I.stack rfl g1 g4 (hf.imp (fun z => g6 z) id) fun h' Nt => ?_
  obtain ⟨un, hok⟩ := nts_un I.hok ha I.stkFree Nt
  have J := I.call' (s' := { s1 with heap := h' }) rfl un hok I.bare (fun b z => absurd z (by simp))
  obtain ⟨T, _, hT⟩ := Nt.fly
  exact ⟨a, C, d, c, _, rfl, J.os, J.bare, J.base, J.hok, upd_same .., ⟨T, hT⟩, hE⟩
theorem raises_def : Raises (cxOf (CXe P w) P w K mg base N qual scope f cd A outer s H E) E := fun pins σ H1 s1 a C d c I ha hE => leave_def I ha (.inl rfl) hE
theorem passes_def : Passes (CXe P w) (cxOf (CXe P w) P w K mg base N qual scope f cd A outer s H E) E := by
  intro pins σ H1 s1 e s' I ⟨a, C, d, c, H', he, os, bare, un, hok, ha, hf, hE⟩
  subst he
  have J := I.call' os un hok bare (fun b z => absurd z (by simp))
  exact leave_def J ha (.inr hf) (by rw [upd_idem ha]; exact hE)
end
end L2
set_option Elab.async false
set_option linter.all false
set_option maxRecDepth 100000
namespace L2
open PySem PySem.Spec PyProof.Rows
noncomputable abbrev bmV : List Value := [.type "ValueError", .type "Exception", .type "BaseException", .type "object"]
structure XCl (K : PySem.W.Frag) (C : Addr) (bm : List Value) : Prop where
  obj : ∃ dd cd k0 k1 k2 k3 k5, K.lookup C = some ⟨.type "type", dd, .cls cd, #[k0, k1, k2, k3, some (.builtin "ValueError.__new__"), k5]⟩ ∧ cd.mro = .ref C :: bm ∧ cd.hasDel = false ∧ cd.hasDict = true
  tl : PySem.W.tailIn K bmV bm = true
  kp : PySem.W.keepIn K (.ref C) = true
noncomputable abbrev xtup (us : List Value) : Obj := { cls := .type "tuple", data := .seq us.toArray }
noncomputable abbrev xnew (C t : Addr) : Obj := { cls := .ref C, data := .fields #[.ref t, .none, .none, .none, .bool false, .none] }
theorem XCl.at {K : PySem.W.Frag} {C : Addr} {bm : List Value} {h : Heap} (x : XCl K C bm) (X : K.In h) : OwnTail h bmV bm ∧ ∃ nm q N bs sn sub ab col dd k0 k1 k2 k3 k5, h.get? C = some (excClassObj nm q C N bs bm true sn sub ab col dd k0 k1 k2 k3 k5 "ValueError.__new__") := by
  refine ⟨PySem.W.tail_of_in X x.tl, ?_⟩
  obtain ⟨dd, cd, k0, k1, k2, k3, k5, hl, hm, hd, hh⟩ := x.obj
  obtain ⟨nm, bs, mro, ns, qn, hdc, sn, sub, ab, col, del⟩ := cd
  dsimp only at hm hd hh
  subst hm hd hh
  exact ⟨nm, qn, ns, bs, sn, sub, ab, col, dd, k0, k1, k2, k3, k5, X _ _ hl⟩

section
variable {prog : Program} {w : World} {A : Around} {E : Value → Shared → Prop} {h : Heap} {g : Array GenState} {d : Drawn} {t : Nat} {os : OsState} {K : PySem.W.Frag} {C fI : Addr} {bm : List Value}
set_option maxHeartbeats 1600000 in
theorem type_call_X {rest : List Value} {Q : Fin → Shared → Prop} (X : K.In h) (x : XCl K C bm) (hi : PySem.W.findIn K (.ref C) "__init__" = some (some (.ref fI))) (hf : PySem.W.isFn K (.ref fI) = true)
    (hq : wpAny (model prog w) A (call (.ref fI) (.ref (h.objs.size + 1) :: rest)) (fun r s' => r = .none ∧ Q (.done (.ret (.ref (h.objs.size + 1)))) s') E ⟨(h.push (xtup rest)).push (xnew C h.objs.size), g, d, t, os⟩) (hrest : rest.length ≤ sizeLine) :
    wpAny (model prog w) A (Builtin.«type.__call__» ⟨.ref C :: rest, []⟩) Q E ⟨h, g, d, t, os⟩ := by
  obtain ⟨T, nm, q, N, bs, sn, sub, ab, col, dd, k0, k1, k2, k3, k5, hC⟩ := x.at X
  have F := PySem.F.excBase_ValueError
  repeat (first | with_reducible refine wpAny_loadPart_at hC ?_ | with_reducible refine wpAny_madeBy_exc hC ?_ | wp_step)
  refine codeAny_call_builtin_code (Code.quiet_builtin _ F.quiet) (wpAny_check_new_subT F T hC ?_)
  refine codeAny_exc_new_subT F T hC ?_ hrest
  show wpAny _ _ _ _ _ _
  have k1 : ∀ b o, h.get? b = some o → ((h.push (xtup rest)).push (xnew C h.objs.size)).get? b = some o := fun b o e => Heap.get?_push_of_some _ (Heap.get?_push_of_some _ e)
  have hC₁ := k1 _ _ hC
  have X₁ : K.In ((h.push (xtup rest)).push (xnew C h.objs.size)) := fun b o e => k1 b o (X b o e)
  have hget : ((h.push (xtup rest)).push (xnew C h.objs.size)).get? (h.objs.size + 1) = some (xnew C h.objs.size) := by heap_get
  have hcC : (Value.ref C :: bm).contains (.ref C) = true := by simp
  unfold isInstance
  repeat (first | with_reducible refine wpAny_loadPart_at hget ?_ | (with_reducible refine wpAny_isSubtype_exc hC₁ ?_; rw [hcC]) | wp_step)
  show wpAny _ _ (typeLookup (.ref C) _) _ _ _
  refine (PySem.W.looks_findIn (M := model prog w) X₁ hi).at ?_
  refine wpAny_holding (wpAny_bind ?_)
  unfold bindSpecial
  have L := PySem.W.looks_typeIn (M := model prog w) X₁ (beq_iff_eq.mp hf)
  refine wpAny_bind (L.at ?_)
  rw [if_pos (by decide)]
  refine wpAny_pure (wpAny_bind (wpAny_mono hq (fun r s' hr => ?_) fun _ _ x => x))
  obtain ⟨rfl, hQ⟩ := hr
  wp_walk
  exact hQ

theorem call_X {rest : List Value} {Q : Value → Shared → Prop} (X : K.In h) (x : XCl K C bm) (hi : PySem.W.findIn K (.ref C) "__init__" = some (some (.ref fI))) (hf : PySem.W.isFn K (.ref fI) = true)
    (hq : wpAny (model prog w) (A.under (.builtin "type.__call__" ⟨.ref C :: rest, []⟩)) (call (.ref fI) (.ref (h.objs.size + 1) :: rest)) (fun r s' => r = .none ∧ Q (.ref (h.objs.size + 1)) s') E ⟨(h.push (xtup rest)).push (xnew C h.objs.size), g, d, t, os⟩) (hrest : rest.length ≤ sizeLine) :
    wpAny (model prog w) A (call (.ref C) rest) Q E ⟨h, g, d, t, os⟩ := by
  obtain ⟨T, nm, q, N, bs, sn, sub, ab, col, dd, k0, k1, k2, k3, k5, hC⟩ := x.at X
  have f1 := tc_lookup
  have f2 := tc_bind (.ref C)
  have hT : (⟨h, g, d, t, os⟩ : Shared).TypeIs (.ref C) "type" := ⟨_, hC, rfl⟩
  refine wpAny_call (codeAny_of_tree ?_)
  show wpAny _ _ (callAny (.ref C) _) _ _ _
  repeat (any_goals (first | assumption | with_reducible refine wpAny_loadPart_at hC ?_ | wp_step))
  refine ⟨rfl, ?_⟩
  exact codeAny_call_builtin_at (Code.quiet_builtin _ (by decide +kernel)) entry_typeCall (wpAny_check_type_call_sub hC (type_call_X X x hi hf hq hrest))
end

section
variable {X : Cx} {k : Nat} {f C : Addr} {fd : FuncData} {ps : List Str} {sp : Sp} {x : Str} {p pos : Pos} {e : Expr} {es : List Expr} {t : TA} {bm : List Value}
theorem Inv.madeX {pins : List (Addr × Obj)} {σ : St} {H : Hp} {s : Shared} (I : Inv X pins σ H s) (us : List Value) : Inv X pins σ (upd H (s.heap.objs.size + 1) (Exo (s.heap.objs.size + 1) C none true true)) { s with heap := (s.heap.push (xtup us)).push (xnew C s.heap.objs.size) } := by
  have I1 := I.kept (h' := s.heap.push (xtup us)) (t' := s.toks) (fun b u q => Heap.get?_push_of_some _ q)
  refine InvW.up (X := X) (I1.laid (a := s.heap.objs.size + 1) (t' := s.toks) (fun b u q => Heap.get?_push_of_some _ q) (Nat.le_of_eq (Heap.size_push _ _)) (exo_ok ⟨xnew C s.heap.objs.size, _, ?_, rfl, rfl, rfl, rfl, (fun _ => rfl), fun _ => rfl⟩)) I.low
  have := Heap.get?_push_size (s.heap.push (xtup us)) (o := xnew C s.heap.objs.size) rfl
  rwa [Heap.size_push] at this
theorem run_makeX {pins : List (Addr × Obj)} {σ : St} {H : Hp} {s : Shared} {Q : VK} {us : List Value} {vs : List V} (M : XCl X.K C bm) (hi : PySem.W.findIn X.K (.ref C) "__init__" = some (some (.ref f))) (hf : PySem.W.isFn X.K (.ref f) = true)
    (F : FnOk X.prog X.w X.K X.mg X.base CX0 k f fd ps sp) (hr : Room (k + 1) X.A) (hb : Binds X.K fd ps []) (I : Inv X pins σ H s) (r : Vals vs us)
    (h : vs.length ≤ 1000 ∧ ∀ x, H x = none → sp (.ref x :: vs) (upd H x (Exo x C none true true)) (fun v H2 => v = .non ∧ Q (.ref x) H2) E0) : wpAny (model X.prog X.w) X.A (call (.ref C) us) (EP X pins σ Q) X.xe s := by
  obtain ⟨hl0, h⟩ := h
  have hq := h (s.heap.objs.size + 1) (I.hok.fresh (Nat.le_succ _))
  have I2 := Inv.madeX (C := C) I us
  have r2 : Vals (V.ref (s.heap.objs.size + 1) :: vs) (Value.ref (s.heap.objs.size + 1) :: us) := .cons rfl r
  have hl : (Value.ref (s.heap.objs.size + 1) :: us ++ []).length = ps.length := by
    have e := r2.length
    rw [F.len _ _ _ _ hq] at e
    rw [List.append_nil]
    exact e.symm
  obtain ⟨hh, g, d, tk, os⟩ := s
  refine call_X I.kIn M hi hf (wpAny_call ?_) (by rw [← r.length, sizeLine_eq]; omega)
  have hb' := hb ⟨(hh.push (xtup us)).push (xnew C hh.objs.size), g, d, tk, os⟩ (Value.ref (hh.objs.size + 1) :: us) I2.kIn hl
  rw [List.append_nil] at hb'
  refine codeAny_mono (F.run _ X.stack _ _ ⟨Value.ref (hh.objs.size + 1) :: us, []⟩ (Value.ref (hh.objs.size + 1) :: us) _ _ E0 (hr.make C us []) (I2.env0.make C us []) hb' r2 hq) fun r s' hq' => ?_
  cases r with
  | error e => exact hq'.elim
  | ok fl =>
    cases fl with
    | ret u =>
      obtain ⟨v, H', I3, rv, ev, q3⟩ := I2.after hq'
      subst ev
      exact ⟨rv, ⟨V.ref (hh.objs.size + 1), H', I3, rfl, q3⟩⟩
    | next => exact False.elim hq'
    | brk => exact False.elim hq'
    | cont => exact False.elim hq'
end
end L2
set_option Elab.async false
set_option linter.all false
set_option maxRecDepth 100000
namespace L2
open PySem PySem.Spec PyProof.Rows Builtin Builtin.ObjectAttr
section
variable {prog : Program} {w : World} {A : Around} {E : Value → Shared → Prop} {h : Heap} {g : Array GenState} {d : Drawn} {t : Nat} {os : OsState} {K : PySem.W.Frag} {C e : Addr} {bm : List Value} {oe : Obj} {vs : Array Value}
theorem init_X {rest : List Value} {R : Result → Shared → Prop} (X : K.In h) (x : XCl K C bm) (he : h.get? e = some oe) (hcls : oe.cls = .ref C) (hd : oe.data = .fields vs) (hsz : vs.size = 6) (hrest : rest.length ≤ sizeLine)
    (hq : R (.ok (.ret .none)) ⟨(h.push (xtup rest)).update e (Obj.mapFields (·.setIfInBounds 0 (.ref h.objs.size))), g, d, t, os⟩) :
    codeAny (model prog w) A (.call (.builtin "ValueError.__init__") ⟨.ref e :: rest, []⟩) R ⟨h, g, d, t, os⟩ := by
  obtain ⟨T, nm, q, N, bs, sn, sub, ab, col, dd, k0, k1, k2, k3, k5, hC⟩ := x.at X
  have F := PySem.F.excBase_ValueError
  refine codeAny_call_builtin F.init.plain F.initEntry (wpAny_check_init_subT F T hC he hcls ?_)
  unfold Builtin.«BaseException.__init__»
  refine wpAny_bind (m := newTuple rest) ?_
  unfold newTuple
  refine wpAny_newObj_type ?_ (by show rest.toArray.size ≤ sizeLine; rw [List.size_toArray]; exact hrest)
  have he₁ := Heap.get?_push_of_some (h := h) (xtup rest) he
  have h0 : ∃ a0, vs[0]? = some a0 := ⟨vs[0], Array.getElem?_eq_getElem (by omega)⟩
  obtain ⟨a0, h0⟩ := h0
  unfold BaseException.bexcPut
  refine wpAny_bind (wpAny_bind (wpAny_field he₁ hd h0 (wpAny_bind (wpAny_setField he₁ hd (by omega) ?_))))
  cases a0 <;> first | exact wpAny_letGo (wpAny_pure hq) | exact wpAny_pure (wpAny_pure hq)

theorem refuse_tail {bm : List Value} {self : Value} (T : OwnTail h bmV bm) : refuseLoop self "__setattr__" bm = pure () := by
  induction T with
  | base => exact PySem.F.store_ValueError.passes self
  | own _ _ _ _ ih => rw [refuseLoop_ref]; exact ih

structure SetX (h h' : Heap) (e : Addr) (oe : Obj) (name : Str) (v : Value) (mA : Str → Option Value) (dx : Addr) : Prop where
  ns : h'.Ns1 dx fun y => if y = name then some v else mA y
  exc : h'.get? e = some { oe with dict := some dx }
  keep : ∀ b o, b ≠ e → b ≠ dx → h.get? b = some o → h'.get? b = some o
section
variable {name : Str} {v : Value} {mA : Str → Option Value}
set_option maxHeartbeats 1600000 in
theorem set_entryX {tk : Tok} {Q : Fin → Shared → Prop} {ns : List Str} (X : K.In h) (x : XCl K C bm) (hna : PySem.W.findIn K (.ref C) name = some none)
    (hx : h.get? e = some oe) (hc : oe.cls = .ref C) (hnc : oe.data = .fields vs) (hd : (oe.dict = none ∧ ∀ n, mA n = none) ∨ ∃ dx, oe.dict = some dx ∧ dx ≠ e ∧ h.Ns1 dx mA)
    (hq : ∀ h' tk' dx, SetX h h' e oe name v mA dx → (oe.dict = none → dx = h.objs.size) → (∀ dy, oe.dict = some dy → dx = dy) → Q (.done (.ret .none)) ⟨h', g, d, tk', os⟩) (hw : Within mA ns) (hsz : ns.length ≤ 1000) :
    wpAny (model prog w) A (Builtin.«object.__setattr__» ⟨[.ref e, .str name tk, v], []⟩) Q E ⟨h, g, d, t, os⟩ := by
  obtain ⟨T, nm, q, N, bs, sn, sub, ab, col, dd, k0, k1, k2, k3, k5, hC⟩ := x.at X
  have hpass := refuse_tail (self := .ref e) T
  have L := PySem.W.looks_findIn (M := model prog w) X hna
  unfold Builtin.«object.__setattr__»
  repeat (first | rw [refuse_eq] | (rw [refuseLoop_ref, hpass]) | (with_reducible refine wpAny_loadPart_at hx ?_; rw [hc]) | with_reducible refine wpAny_mroOf_exc hC ?_ | with_reducible refine L.at ?_ | wp_step)
  rcases hd with ⟨hdn, hmA⟩ | ⟨dx, hdx, hne, hns⟩
  · rw [hdn, if_neg (by simp [typeHasDict])]
    split
    · rename_i hcd
      cases hcd
    split
    · rename_i c hcd
      rw [hnc] at hcd; cases hcd
    · have hx₁ : (h.push { cls := .type "dict", data := .dict #[] }).get? e = some oe := Heap.get?_push_of_some _ hx
      have hxs : e ≠ h.objs.size := Nat.ne_of_lt (Heap.lt_size hx)
      refine wpAny_bind (wpAny_alloc' ?_)
      refine wpAny_bind (wpAny_update' hx₁ ?_)
      refine wpAny_pure ?_
      have hgd : ((h.push { cls := .type "dict", data := .dict #[] }).update e fun o => { cls := o.cls, dict := some h.objs.size, data := o.data, slots := o.slots }).get? h.objs.size
          = some { cls := .type "dict", data := .dict #[] } :=
        (Heap.get?_update_ne _ _ _ _ hxs.symm).trans (Heap.get?_push_at rfl rfl)
      have hnd : ((h.push { cls := .type "dict", data := .dict #[] }).update e fun o => { cls := o.cls, dict := some h.objs.size, data := o.data, slots := o.slots }).Ns h.objs.size (fun _ => none) :=
        ⟨_, #[], _, hgd, rfl, fun e he => absurd he (by simp), fun _ => rfl⟩
      show wpAny _ _ (storeInDict h.objs.size (.str name tk) name v) _ _ _
      unfold storeInDict newKeyGuard
      refine wpAny_bind (wpAny_pure (wpAny_bind (wpAny_nsSet1 (Heap.Ns1.of_empty hnd) fun h' hn' hs => ?_)))
      obtain ⟨oD, esD, epD, hoD, hdD, hcD⟩ := hn'.count (Within.cons name v Within.nil)
      refine wpAny_bind (wpAny_lookBehind hoD (by rw [hdD]; exact pastItsLine_dict (Nat.le_trans hcD (by rw [List.length_cons, List.length_nil, sizeLine_eq]; omega))) ?_)
      wp_walk
      refine hq h' _ h.objs.size ⟨?_, ?_, fun b o hbx _ hb => ?_⟩ (fun _ => rfl) fun dy q => by rw [hdn] at q; cases q
      · obtain ⟨o', es, ep, e1, e2, e3, eu, e4⟩ := hn'
        exact ⟨o', es, ep, e1, e2, e3, eu, fun y => by rw [e4 y]; by_cases hy : y = name <;> simp [hy, hmA]⟩
      · exact (hs.2 e hxs).trans (Heap.get?_update_self _ hx₁ (Obj.isFreed_of_fields hnc))
      · exact (hs.2 b (Nat.ne_of_lt (Heap.lt_size hb))).trans ((Heap.get?_update_ne _ _ _ _ hbx).trans (Heap.get?_push_of_some _ hb))
  · rw [hdx]
    refine wpAny_pure ?_
    show wpAny _ _ (storeInDict dx (.str name tk) name v) _ _ _
    unfold storeInDict newKeyGuard
    refine wpAny_bind (wpAny_pure (wpAny_bind (wpAny_nsSet1 hns fun h' hn' hs => ?_)))
    obtain ⟨oD, esD, epD, hoD, hdD, hcD⟩ := hn'.count (Within.cons name v hw)
    refine wpAny_bind (wpAny_lookBehind hoD (by rw [hdD]; exact pastItsLine_dict (Nat.le_trans hcD (by rw [List.length_cons, sizeLine_eq]; omega))) ?_)
    wp_walk
    refine hq h' _ dx ⟨hn', ?_, fun b ob _ hbd hb => (hs.2 b hbd).trans hb⟩ (fun q => by rw [hdx] at q; cases q) fun dy q => by rw [hdx] at q; cases q; rfl
    rw [(hs.2 e hne.symm).trans hx]
    obtain ⟨c, dd, dt, sl⟩ := oe
    simp only at hdx
    subst hdx
    rfl

theorem check_saX {M : Model} {nameV : Value} {Q : Unit → Shared → Prop} (X : K.In h) (x : XCl K C bm) (hx : h.get? e = some oe) (hc : oe.cls = .ref C) (hq : Q () ⟨h, g, d, t, os⟩) :
    wpAny M A (checkBuiltinCall "object.__setattr__" ⟨[.ref e, nameV, v], []⟩) Q E ⟨h, g, d, t, os⟩ := by
  obtain ⟨T, nm, q, N, bs, sn, sub, ab, col, dd, k0, k1, k2, k3, k5, hC⟩ := x.at X
  have SF := PySem.F.store_ValueError
  have hcB : (Value.ref C :: bm).contains (.type "object") = true := by rw [List.contains_cons, T.hasType SF.hasOwner, Bool.or_true]
  have ha := SF.args (.ref e) nameV v
  simp only [checkBuiltinCall, SF.kind, SF.split]
  refine wpAny_bind ?_
  unfold isInstance
  repeat (first | (with_reducible refine wpAny_loadPart_at hx ?_; rw [hc]) | (with_reducible refine wpAny_isSubtype_exc hC ?_; rw [hcB]) | wp_step)
  exact hq

theorem set_X {Q : Unit → Shared → Prop} {ns : List Str} (X : K.In h) (x : XCl K C bm) (hsa : PySem.W.findIn K (.ref C) "__setattr__" = some (some (.builtin "object.__setattr__"))) (hna : PySem.W.findIn K (.ref C) name = some none)
    (hx : h.get? e = some oe) (hc : oe.cls = .ref C) (hnc : oe.data = .fields vs) (hd : (oe.dict = none ∧ ∀ n, mA n = none) ∨ ∃ dx, oe.dict = some dx ∧ dx ≠ e ∧ h.Ns1 dx mA)
    (hq : ∀ h' tk' dx, SetX h h' e oe name v mA dx → (oe.dict = none → dx = h.objs.size) → (∀ dy, oe.dict = some dy → dx = dy) → Q () ⟨h', g, d, tk', os⟩) (hw : Within mA ns) (hsz : ns.length ≤ 1000) :
    wpAny (model prog w) A (setAttr (.ref e) name v) Q E ⟨h, g, d, t, os⟩ := by
  obtain ⟨T, nm, q, N, bs, sn, sub, ab, col, dd, k0, k1, k2, k3, k5, hC⟩ := id (x.at X)
  have SF := PySem.F.store_ValueError
  have f3 := SF.slot.bind (.ref e)
  have L := PySem.W.looks_findIn (M := model prog w) X hsa
  unfold setAttr callSpecial? specialOf
  repeat (any_goals (first | assumption | (with_reducible refine wpAny_loadPart_at hx ?_; rw [hc]) | with_reducible refine L.at ?_ | wp_step))
  refine codeAny_call_builtin SF.slot.plain SF.entry (check_saX X x hx hc (set_entryX X x hna hx hc hnc hd (fun h' tk' dx a b c => ?_) hw hsz))
  repeat (any_goals (first | assumption | wp_step))
  exact hq h' tk' dx a b c
end
end
end L2
set_option Elab.async false
set_option linter.all false
set_option maxRecDepth 100000
namespace L2
open PySem PySem.Spec PyProof.Rows
noncomputable def xdt (d : Addr) (fs : List (Str × V)) : Heap → Prop := fun h => ∃ mA, h.Ns1 d mA ∧ (∀ f, RelO (fs.lookup f) (mA f)) ∧ PySem.Within mA (fs.map (·.1))
noncomputable abbrev Xdt (d : Addr) (fs : List (Str × V)) : HO := .ext (xdt d fs)
theorem xdt_ok {P : Program} {w : World} {H : Hp} {h : Heap} {d : Addr} {fs : List (Str × V)} (x : xdt d fs h) : ObjOk P w H h d (Xdt d fs) :=
  ⟨x, let ⟨_, ⟨o, _, _, q, _⟩, _⟩ := x; ⟨o, q⟩, fun _ _ y k => let ⟨mA, n, r⟩ := y; ⟨mA, n.at k, r⟩⟩

structure XAt (K : PySem.W.Frag) (C : Addr) : Prop where
  cl : ∃ bm, XCl K C bm
  sa : PySem.W.findIn K (.ref C) "__setattr__" = some (some (.builtin "object.__setattr__"))
  ga : PySem.W.findIn K (.ref C) "__getattribute__" = some (some (.builtin "BaseException.__getattribute__"))
  gn : PySem.W.findIn K (.ref C) "__getattr__" = some none

section
variable {X : Cx} {pins : List (Addr × Obj)} {σ : St} {H : Hp} {s : Shared} {A : Around} {E : Value → Shared → Prop} {a C : Addr} {b cx : Bool} {f : Str} {y : V} {u : Value} {Q : Unit → Shared → Prop}
theorem exo_get {P : Program} {w : World} {h : Heap} {d : Option Addr} (ok : HOk P w H h) (e : H a = some (Exo a C d b cx)) : exo a C d b cx h := (ok a _ e).1
theorem xdt_get {P : Program} {w : World} {h : Heap} {d : Addr} {fs : List (Str × V)} (ok : HOk P w H h) (e : H d = some (Xdt d fs)) : xdt d fs h := (ok d _ e).1
theorem setx0_ok (I : Inv X pins σ H s) (ea : H a = some (Exo a C none b cx)) (x : XAt X.K C) (hna : PySem.W.findIn X.K (.ref C) f = some none) (ry : RelV y u)
    (h : ∀ s' dx, H dx = none → dx ≠ a → InvW X pins σ (upd (upd H a (Exo a C (some dx) b cx)) dx (Xdt dx [(f, y)])) s' → Q () s') : wpAny (model X.prog X.w) A (setAttr (.ref a) f u) Q E s := by
  obtain ⟨oe, vs, g1, g2, g3, g4, g5, g6⟩ := exo_get I.hok ea
  obtain ⟨bm, xc⟩ := x.cl
  obtain ⟨hh, g, dr, tk, os⟩ := s
  refine set_X (mA := fun _ => none) (ns := []) I.kIn xc x.sa hna g1 g2 g4 (.inl ⟨g3, fun _ => rfl⟩) (fun h' tk' dx S d1 _ => ?_) (fun n hn => absurd rfl hn) (by simp)
  have hdx : dx = hh.objs.size := d1 g3
  have hfr : H dx = none := I.hok.fresh (Nat.le_of_eq hdx.symm)
  have nea : dx ≠ a := fun z => by rw [z, ea] at hfr; cases hfr
  have nin : ∀ c o, hh.get? c = some o → c ≠ dx := fun c o q z => absurd (Heap.lt_size q) (by rw [z, hdx]; exact Nat.lt_irrefl _)
  have neA : ∀ c, H c = none → c ≠ a := fun c n z => by rw [z, ea] at n; cases n
  have neA' : ∀ c v, H c = some v → v ≠ Exo a C none b cx → c ≠ a := fun c v q n z => by rw [z, ea] at q; cases q; exact n rfl
  have neD : ∀ c v, H c = some v → c ≠ dx := fun c v q z => by rw [z, hfr] at q; cases q
  have same : ∀ c v, H c = some v → v ≠ Exo a C none b cx → upd (upd H a (Exo a C (some dx) b cx)) dx (Xdt dx [(f, y)]) c = some v := fun c v q n => by rw [upd_ne (neD c v q), upd_ne (neA' c v q n)]; exact q
  refine h _ dx hfr nea (I.un (t' := tk') ⟨fun c o q n _ _ => S.keep c o (neA c n) (nin c o q) q, fun c o q n _ _ => ⟨o.slots, S.keep c o (neA c n) (nin c o q) q⟩,
    fun c o q n _ => by rw [upd_ne (nin c o q), upd_ne (neA c n)]; exact n, fun c o q _ => ?_, fun c xs q => same c _ q (by intro z; cases z), fun c o v q => same c _ q (by intro z; cases z), fun c ps q => ⟨#[], by rw [same c _ q (by intro z; cases z)]; simp⟩⟩ fun c v q => ?_)
  · by_cases z : c = a
    · subst z; exact ⟨_, S.exc⟩
    · exact ⟨o, S.keep c o z (nin c o q) q⟩
  · by_cases z : c = dx
    · subst z
      rw [upd_same] at q; cases q
      refine xdt_ok ⟨_, S.ns, fun n => ?_, fun n hn => ?_⟩
      · show RelO (List.lookup n [(f, y)]) (if n = f then some u else none)
        by_cases z : n = f
        · subst z; rw [if_pos rfl, List.lookup_cons, beq_self_eq_true]; exact ry
        · rw [if_neg z, List.lookup_cons, beq_eq_false_iff_ne.mpr z]; exact True.intro
      · by_cases z : n = f
        · subst z; exact List.mem_cons_self
        · exact absurd (show (if n = f then some u else none) = none by rw [if_neg z]) hn
    · rw [upd_ne z] at q
      by_cases y' : c = a
      · subst y'
        rw [upd_same] at q; cases q
        exact exo_ok ⟨_, vs, S.exc, g2, rfl, g4, g5, g6⟩
      · rw [upd_ne y'] at q
        have hc := I.hok c v q
        refine hc.stay (fun p o hp r => S.keep p o ?_ (nin p o r) r) (fun p hp => same p _ hp (by intro z; cases z)) fun p xs hp => same p _ hp (by intro z; cases z)
        rcases hp with rfl | hp
        · exact y'
        · exact neA' p _ hp (by intro z; cases z)
end

noncomputable def sFx0 (K : PySem.W.Frag) (ta tv : TE) (f : Str) : TS := fun D σ H => tv σ H fun y H1 => ta σ H1 fun x H2 => ∃ a C b cx, x = .ref a ∧ H2 a = some (Exo a C none b cx) ∧ XAt K C ∧ PySem.W.findIn K (.ref C) f = some none ∧
  ∀ dx, H2 dx = none → dx ≠ a → D.nx σ (upd (upd H2 a (Exo a C (some dx) b cx)) dx (Xdt dx [(f, y)]))
section
variable {X : Cx} {o e value : Expr} {es : List Expr} {f x : Str} {p pos pos' apos : Pos} {ta tv te : TE} {t : TA} {R : Addr} {E : XK}
theorem ps_fx0 (ha : PE X o ta) (hv : PE X value tv) (hs : swapsWith value (some (.Attribute o f pos')) pos.line X.env = pure false) : PS X (.Assign [.Attribute o f pos'] value pos) (sFx0 X.K ta tv f) := by
  intro pins s σ H D I h
  refine plainObj_wpAny_Assign_Attribute (thn (hv pins s σ H _ I h) fun u s1 ⟨y, H1, I1, ry, q⟩ => thn (ha pins s1 σ H1 _ I1 q) fun ov s2 zq1 => ?_) hs
  obtain ⟨z, H2, I2, rx, a, C, b, cx, ex, ea, c, n, q2⟩ := zq1
  subst ex
  obtain rfl : ov = Value.ref a := rx
  exact setx0_ok I2 ea c n ry fun s3 dx h1 h2 I3 => ⟨σ, _, I3, q2 dx h1 h2⟩

noncomputable def tInitX (K : PySem.W.Frag) (t : TA) : TE := fun σ H Q => t σ H fun vs H1 => ∃ a C d b cx rest, vs = .ref a :: rest ∧ rest.length ≤ 1000 ∧ H1 a = some (Exo a C d b cx) ∧ XAt K C ∧ Q .non H1
structure XBase (K : PySem.W.Frag) (R : Addr) : Prop where
  rd : PySem.W.readsIn K R (.type "type") = true
  at_ : PySem.W.findCls K (.ref R) (.type "type") "__init__" = some (.val (.builtin "ValueError.__init__"))
  ga : PySem.W.specialIn K (.ref R) "__getattribute__" = some (some (.builtin "type.__getattribute__"))
  hd : PySem.W.handedIn (.builtin "ValueError.__init__") = true
theorem initx_ok {pins : List (Addr × Obj)} {σ : St} {H : Hp} {s : Shared} {A : Around} {F : Value → Shared → Prop} {Q : Value → Shared → Prop} {a C : Addr} {d : Option Addr} {b cx : Bool} {rest : List Value} (I : Inv X pins σ H s) (ea : H a = some (Exo a C d b cx)) (x : XAt X.K C) (hl : rest.length ≤ 1000)
    (h : ∀ s', InvW X pins σ H s' → Q .none s') : wpAny (model X.prog X.w) A (call (.builtin "ValueError.__init__") (.ref a :: rest)) Q F s := by
  obtain ⟨oe, vs, g1, g2, g3, g4, g5, g6⟩ := exo_get I.hok ea
  obtain ⟨bm, xc⟩ := x.cl
  obtain ⟨hh, g, dr, tk, os⟩ := s
  refine wpAny_call (init_X I.kIn xc g1 g2 g4 g5 (by rw [sizeLine_eq]; omega) (h _ ?_))
  have I1 := I.kept (h' := hh.push (xtup rest)) (t' := tk) (fun b u q => Heap.get?_push_of_some _ q)
  have g1' := Heap.get?_push_of_some (h := hh) (xtup rest) g1
  have hd' := Obj.data_mapFields g4 (·.setIfInBounds 0 (Value.ref hh.objs.size))
  have e' := Heap.get?_update_self (Obj.mapFields (·.setIfInBounds 0 (Value.ref hh.objs.size))) g1' (Obj.isFreed_of_fields hd')
  have I2 := I1.write (t' := tk) (x := a) (e := a) (h' := (hh.push (xtup rest)).update a (Obj.mapFields (·.setIfInBounds 0 (Value.ref hh.objs.size)))) (o := Exo a C d b cx) (by rw [ea]; exact True.intro) (.inl rfl) (fun c o hc q => (Heap.get?_update_other _ _ (Ne.symm hc)).trans q) ⟨_, e'⟩
    (exo_ok ⟨_, _, e', (Obj.cls_mapFields _ _).trans g2, by
      rw [← g3]
      obtain ⟨c1, c2, c3, c4⟩ := oe
      cases c3 <;> rfl, hd', by rw [Array.size_setIfInBounds]; exact g5, (fun z => by rw [Array.getElem?_setIfInBounds_ne (by decide)]; exact g6.1 z), fun z => by rw [Array.getElem?_setIfInBounds_ne (by decide)]; exact g6.2 z⟩)
  rwa [upd_idem ea] at I2
theorem pe_initX {pl : Sem Bool} (B : XBase X.K R) (hg : Gl X x) (hm : X.mg x = some (.ref R)) (ha : PA X (e :: es) t) (hdb : (x == ("__debug__" : Str)) = false := by decide)
    (hst : starEach (e :: es) X.env = (false, eval e X.env) :: starEach es X.env := by rfl) (hpl : (backTo pos (starEach es X.env)).any (·.1) = false := by rfl)
    (ht : eval (.Call (.Attribute (.Name x p) "__init__" apos) (e :: es) [] pos) X.env = (do
      let ov ← eval (.Name x p) X.env
      standAt apos.atName
      let (f, first) ← holding [ov] (getMethod ov "__init__" pl)
      callWith pos f first (backTo pos (starEach (e :: es) X.env)) (backToKw pos (keywordEach [] X.env))) := by rfl) :
    PE X (.Call (.Attribute (.Name x p) "__init__" apos) (e :: es) [] pos) (tInitX X.K t) := by
  intro pins s σ H Q I h
  refine PySem.W.methodCall_KW (pl := pl) (ld_glob I hg hm ?_ hdb) ht
  refine PySem.W.method_cls I.kIn B.ga (PySem.W.cls_value I.kIn B.rd B.at_ B.hd ?_)
  refine PyProof.Rows.callWith_builtin1 (thn (ha pos pins _ σ H _ ((I.tok _).up (Nat.le_succ_of_le I.low)) h) (fun us s2 zq3 => ?_) (Nat.le_succ_of_le I.low)) hst hpl
  obtain ⟨vs, H2, I2, r, a, C, d, b, cx, rest, ev, hl, ea, xa, q2⟩ := zq3
  subst ev
  cases r with
  | cons r1 r2 =>
    obtain rfl : _ = Value.ref a := r1
    exact initx_ok I2 ea xa (by rw [← r2.length]; exact hl) fun s3 I3 => ⟨.non, H2, I3, rfl, q2⟩

noncomputable def sRaise (K : PySem.W.Frag) (te : TE) (E : XK) : TS := fun D σ H => te σ H fun v H1 => ∃ a C d cx, v = .ref a ∧ H1 a = some (Exo a C d true cx) ∧ XAt K C ∧ E (.ref a) none (upd H1 a (Exo a C d false cx))
theorem ps_raiseX (hx : Raises X E) (hc : X.calm = true) (he : PE X e te) : PS X (.Raise (some e) none pos) (sRaise X.K te E) := by
  intro pins s σ H D I h
  rw [arm_exec_Raise]
  refine wpAny_bind (wpAny_standAt ?_)
  unfold raiseStmt
  refine wpAny_bind (wpAny_bind (thn (he pins s σ H _ I h) fun v s1 ⟨y, H1, I1, ry, a, C, d, cx, ey, ea, xa, q⟩ => wpAny_bind (wpAny_standAt (wpAny_pure ?_))))
  subst ey
  obtain rfl : v = Value.ref a := ry
  have fin := hx pins σ H1 s1 a C d cx I1 ea q
  obtain ⟨⟨oc, od, odt, osl⟩, vs, g1, g2, g3, g4, g5, g6⟩ := exo_get I1.hok ea
  simp only at g2 g3 g4
  subst g2 g3 g4
  obtain ⟨bm, xc⟩ := xa.cl
  obtain ⟨T, nm, q, N, bs, sn, sub, ab, col, dd, k0, k1, k2, k3, k5, hC⟩ := xc.at I1.kIn
  have hcB : (Value.ref C :: bm).contains (.type "BaseException") = true := by rw [List.contains_cons, T.hasType PySem.F.excBase_ValueError.hasBase, Bool.or_true]
  have hh := I1.ok.hd hc
  obtain ⟨hp, g, dr, tk, os⟩ := s1
  repeat (first | with_reducible refine wpAny_loadPart_at g1 ?_ | with_reducible refine wpAny_loadPart_at hC ?_ | (with_reducible refine wpAny_isSubtype_exc hC ?_; rw [hcB]) | wp_step)
  rw [g6.1 rfl]
  refine wpAny_pure ?_
  rw [if_neg (by decide)]
  exact wpAny_pure (wpAny_raiseNew_none hh fin)
end
end L2
set_option Elab.async false
set_option linter.all false
set_option maxRecDepth 100000
namespace L2
open PySem PySem.Spec PyProof.Rows
theorem XCl.mro {K : PySem.W.Frag} {C : Addr} {bm : List Value} {h : Heap} (x : XCl K C bm) (X : K.In h) {T : String} {b : Bool} (hb : bmV.contains (.type T) = b) : PySem.W.mroIn K C (.type T) = some b := by
  have T' := PySem.W.tail_of_in X x.tl
  obtain ⟨dd, cd, k0, k1, k2, k3, k5, hl, hm, hd, hh⟩ := x.obj
  unfold PySem.W.mroIn PySem.W.clsIn
  rw [hl, Option.bind_some, hm, if_neg (by simp), List.contains_cons, T'.hasType hb]
  rfl
theorem XCl.cls {K : PySem.W.Frag} {C : Addr} {bm : List Value} (x : XCl K C bm) : ∃ cd, PySem.W.clsIn K C = some cd ∧ cd.hasDict = true := by
  obtain ⟨dd, cd, k0, k1, k2, k3, k5, hl, hm, hd, hh⟩ := x.obj
  exact ⟨cd, by unfold PySem.W.clsIn; rw [hl], hh⟩
section
variable {prog : Program} {w : World} {A : Around} {E : Value → Shared → Prop} {s : Shared} {K : PySem.W.Frag} {C a : Addr} {bm : List Value} {oe : Obj} {od : Option Obj} {name : Str} {fill expr : Bool} {tk : Tok}
theorem byX_open {Q : Value → Shared → Prop} (X : K.In s.heap) (I : PySem.W.InstAt s.heap a oe C od) (x : XAt K C)
    (h : wpAny (model prog w) A.in1 (Builtin.«object.__getattribute__» ⟨[.ref a, .str name tk], []⟩) (fun fin s' => match fin with | .done (.ret v) => wpAny (model prog w) A (handedOut v) Q E s' | _ => False) (fun _ _ => False) s) :
    wpAny (model prog w) A (getAttrBy (.ref a) (.str name tk) fill expr) Q E s := by
  obtain ⟨bm, xc⟩ := x.cl
  have hmB := xc.mro X (T := "BaseException") (b := true) PySem.F.excBase_ValueError.hasBase
  have L0 := I.type (M := model prog w)
  unfold getAttrBy
  refine wpAny_holding (wpAny_bind (L0.here (wpAny_bind ((PySem.W.looks_findIn X x.ga).here ?_))))
  dsimp only
  rw [show (onTheHeap (Value.ref C) && Value.builtin "BaseException.__getattribute__" == Value.builtin "object.__getattribute__") = false from by rw [show (Value.builtin "BaseException.__getattribute__" == Value.builtin "object.__getattribute__") = false from by decide +kernel, Bool.and_false], if_neg (by decide)]
  unfold getAttrByItsOwn
  refine wpAny_bind ((PySem.W.looks_hook (mc := .ref C) (r := none) X (by rw [if_pos (show onTheHeap (Value.ref C) = true from rfl)]; exact x.gn)).here (wpAny_bind (wpAny_attempt (wpAny_holding ?_))))
  unfold callGetattribute
  rw [show (expr && onTheHeap (Value.builtin "BaseException.__getattribute__")) = false from Bool.and_false _, if_neg (by decide)]
  unfold boundAndCalled
  rw [PySem.F.attr_ValueError.ga.bind]
  refine wpAny_bind (wpAny_pure ?_)
  show wpAny _ _ (call (.builtin "BaseException.__getattribute__") [.ref a, .str name tk]) _ _ _
  refine wpAny_call (codeAny_call_builtin PySem.F.attr_ValueError.ga.plain PySem.F.entry_bexc_ga ?_)
  have hk : builtinKind "BaseException.__getattribute__" = some .slot := by decide +kernel
  have hsp : splitId "BaseException.__getattribute__" = some ("BaseException", "__getattribute__") := by decide +kernel
  have LI : PySem.W.Looks (model prog w) s.heap (isInstance (.ref a) (.type "BaseException")) true := L0.andThen (PySem.W.looks_mroIn X hmB)
  refine @PySem.W.check_slot (model prog w) _ _ s "BaseException.__getattribute__" "BaseException" "__getattribute__" (.ref a) [.str name tk] [] _ hk hsp LI (PySem.F.args_bexc_ga (.ref a) (.str name tk)) ?_
  refine wpAny_mono h (fun fin s' z => ?_) fun _ _ z => z.elim
  rcases fin with (_ | _ | _ | _) | _ <;> first | exact z | exact z.elim
theorem ga_value {v : Value} {Q : Fin → Shared → Prop} (X : K.In s.heap) (I : PySem.W.InstAt s.heap a oe C od) (hf : PySem.W.findObj K C od name = some (.value v)) (h : Q (.done (.ret v)) s) :
    wpAny (model prog w) A (Builtin.«object.__getattribute__» ⟨[.ref a, .str name tk], []⟩) Q E s := by
  have L0 := I.type (M := model prog w)
  have L1 := PySem.W.looks_find (M := model prog w) X I hf
  refine wpAny_bind (wpAny_pure (wpAny_bind (wpAny_pure (wpAny_bind (L0.here (wpAny_bind (L1.here ?_)))))))
  exact wpAny_pure h
theorem ga_bind {g b : Value} {Q : Fin → Shared → Prop} (X : K.In s.heap) (I : PySem.W.InstAt s.heap a oe C od) (hf : PySem.W.findObj K C od name = some (.bind g b))
    (h : wpAny (model prog w) A (call g [b, .ref a, .ref C]) (fun v s' => Q (.done (.ret v)) s') E s) :
    wpAny (model prog w) A (Builtin.«object.__getattribute__» ⟨[.ref a, .str name tk], []⟩) Q E s := by
  have L0 := I.type (M := model prog w)
  have L1 := PySem.W.looks_find (M := model prog w) X I hf
  refine wpAny_bind (wpAny_pure (wpAny_bind (wpAny_pure (wpAny_bind (L0.here (wpAny_bind (L1.here ?_)))))))
  show wpAny _ _ (holding [b] (call g [b, .ref a, .ref C]) >>= ret) _ _ _
  exact wpAny_bind (wpAny_holding (wpAny_mono h (fun v s' z => wpAny_pure z) fun _ _ z => z))
end

theorem XCl.hasDict {K : PySem.W.Frag} {C : Addr} {bm : List Value} (x : XCl K C bm) : PySem.W.hasDictIn K C = true := by
  obtain ⟨cd, h1, h2⟩ := x.cls
  unfold PySem.W.hasDictIn
  rw [h1]
  exact h2
structure XCa (K : PySem.W.Frag) (C : Addr) : Prop where
  at_ : XAt K C
  ca : PySem.W.findIn K (.ref C) "__class__" = some (some (.builtin "object.__class__"))
  gt : PySem.W.specialIn K (.builtin "object.__class__") "__get__" = some (some (.builtin "getset_descriptor.__get__"))
  tk : PySem.W.takesIn K (.builtin "object.__class__") = some true
theorem kitx_exc {K : PySem.W.Frag} {C a : Addr} (x : XCa K C) : PySem.W.KitX K (.ref a) (.ref C) (fun h => ∃ oe od, PySem.W.InstAt h a oe C (some od)) where
  ty := fun _ _ _ zq1 => (by obtain ⟨_, _, I⟩ := zq1; exact I.type)
  it := fun _ _ X _ => by
    obtain ⟨bm, xc⟩ := x.at_.cl
    obtain ⟨dd, cd, k0, k1, k2, k3, k5, ho, _⟩ := xc.obj
    intro A' Q' E' s' k q
    unfold isType loadHead
    exact wpAny_bind (wpAny_loadPart (k _ _ (X _ _ ho)) (wpAny_pure q))
  ne := fun h tp dd its n sl X htp => by
    obtain ⟨bm, xc⟩ := x.at_.cl
    obtain ⟨dd, cd, k0, k1, k2, k3, k5, ho, _⟩ := xc.obj
    refine Bool.eq_false_iff.mpr fun q => ?_
    have e : C = tp := Value.ref.inj (beq_iff_eq.mp q)
    subst e
    have z := congrArg Obj.data (Option.some.inj ((X _ _ ho).symm.trans htp))
    cases z
  ca := fun {prog w A E Q s} X ⟨oe, od, I⟩ k => by
    obtain ⟨bm, xc⟩ := x.at_.cl
    obtain ⟨cd, hc, _⟩ := xc.cls
    have hf : PySem.W.findObj K C (some od) "__class__" = some (.bind (.builtin "getset_descriptor.__get__") (.builtin "object.__class__")) := PySem.W.findObj_data (by rw [hc]; rfl) x.ca x.gt x.tk
    refine wpAny_bind (wpAny_mkText ?_)
    unfold getAttrBy?
    refine wpAny_bind (wpAny_attempt ?_)
    refine byX_open (s := { s with toks := s.toks + 1 }) X I x.at_ (ga_bind (s := { s with toks := s.toks + 1 }) X I hf (wpAny_call ?_))
    exact PySem.W.class_get (s := { s with toks := s.toks + 1 }) (ox := oe) (od := some od) X I (xc.mro X PySem.F.store_ValueError.hasOwner) (PySem.W.handed_on rfl (wpAny_pure k))

section
variable {X : Cx} {pins : List (Addr × Obj)} {σ : St} {H : Hp} {s : Shared} {A : Around} {E : Value → Shared → Prop} {a C dx : Addr} {b cx : Bool} {fs : List (Str × V)} {f : Str} {v : V}
theorem exc_inst (I : Inv X pins σ H s) (ea : H a = some (Exo a C (some dx) b cx)) (ed : H dx = some (Xdt dx fs)) : ∃ oe od, PySem.W.InstAt s.heap a oe C (some od) ∧ ∃ mA : Str → Option Value, (∀ n, PySem.W.lookIn n od = some (mA n)) ∧ ∀ n, RelO (fs.lookup n) (mA n) := by
  obtain ⟨oe, vs, g1, g2, g3, g4, g5, g6⟩ := exo_get I.hok ea
  obtain ⟨mA, n1, n2, n3⟩ := xdt_get I.hok ed
  obtain ⟨od, ho, hl⟩ := lookIn_ns n1
  exact ⟨oe, od, ⟨g1, g2, by unfold PySem.W.notCls; rw [g4], by rw [g3]; exact ho⟩, mA, hl, n2⟩
theorem getx_ok {ex : Bool} {Q : Value → Shared → Prop} (I : Inv X pins σ H s) (ea : H a = some (Exo a C (some dx) b cx)) (ed : H dx = some (Xdt dx fs)) (x : XAt X.K C) (hna : PySem.W.findIn X.K (.ref C) f = some none) (l : fs.lookup f = some v)
    (h : ∀ u s', InvW X pins σ H s' → RelV v u → Q u s') : wpAny (model X.prog X.w) A (getAttr (.ref a) f ex) Q E s := by
  obtain ⟨oe, od, J, mA, hl, r⟩ := exc_inst I ea ed
  obtain ⟨bm, xc⟩ := x.cl
  obtain ⟨u, hu, ru⟩ := RelO.some_of (v := v) (o := mA f) (by rw [← l]; exact r f)
  have hf : PySem.W.findObj X.K C (some od) f = some (.value u) := PySem.W.findObj_own xc.hasDict hna rfl (by rw [hl, hu])
  refine wpAny_bind (wpAny_mkText ?_)
  refine byX_open (s := { s with toks := s.toks + 1 }) I.kIn J x (ga_value (s := { s with toks := s.toks + 1 }) I.kIn J hf ?_)
  exact PySem.W.handed_on (handed_of ru) (h u _ (I.tok _) ru)
end

noncomputable def tFx (K : PySem.W.Frag) (ta : TE) (f : Str) : TE := fun σ H Q => ta σ H fun x H1 => ∃ a C b cx dx fs v, x = .ref a ∧ H1 a = some (Exo a C (some dx) b cx) ∧ H1 dx = some (Xdt dx fs) ∧ XAt K C ∧ PySem.W.findIn K (.ref C) f = some none ∧ fs.lookup f = some v ∧ Q v H1
inductive rIsx (K : PySem.W.Frag) (xs : List V) (H : Hp) (Q : VK) : Prop
  | mk : ∀ a C b cx dx fs c t r, (xs = [.ref a, c]) → (H a = some (Exo a C (some dx) b cx)) → (H dx = some (Xdt dx fs)) → (XCa K C) → ((∀ u, RelV c u → u = t)) → (PySem.W.kitOne K (.ref C) t = some r) → (Q (.bl r) H) → rIsx K xs H Q
section
variable {X : Cx} {e : Expr} {f : Str} {pos : Pos} {ta : TE}
theorem pe_fx (he : PE X e ta) (hb : attributeBase e f X.env (eval e X.env) = eval e X.env) : PE X (.Attribute e f pos) (tFx X.K ta f) := by
  intro pins s σ H Q I h
  refine attr_of hb (thn (he pins s σ H _ I h) fun u s1 zq2 => ?_)
  obtain ⟨x, H1, I1, rx, a, C, b, cx, dx, fs, v, ex, ea, ed, c, n, l, q⟩ := zq2
  subst ex
  obtain rfl : u = Value.ref a := rx
  exact getx_ok I1 ea ed c n l fun u' s2 I2 ru => ⟨v, H1, I2, ru, q⟩
theorem call_isx : CallR X (.builtin "isinstance") (rIsx X.K) := by
  intro pins s σ H xs us Q I r h
  obtain ⟨a, C, b, cx, dx, fs, c, t, rr, rfl, ea, ed, x, hc, e, q⟩ := h
  obtain ⟨u, u2, rfl, rx, r2⟩ := vals2 r
  obtain rfl := hc _ r2
  obtain rfl : u = Value.ref a := rx
  obtain ⟨oe, od, J, _⟩ := exc_inst I ea ed
  exact PySem.W.kia_one (kitx_exc x) I.kIn ⟨oe, _, J⟩ e (fun z => nomatch z) fun tk => ⟨.bl rr, H, I.tok _, rfl, q⟩
end
end L2
set_option Elab.async false
set_option linter.all false
set_option maxRecDepth 100000
namespace L2
open PySem PySem.Spec PyProof.Rows
noncomputable abbrev Hd (X : Cx) (v : Value) : Cx := { X with A := X.A.mark (some v), calm := false, xe := fun _ _ => False }
theorem InvW.hold {X : Cx} {pins : List (Addr × Obj)} {σ : St} {H : Hp} {s : Shared} (I : InvW X pins σ H s) (v : Value) : InvW (Hd X v) pins σ H s :=
  ⟨⟨I.ok.mod, I.ok.kind, I.ok.glob, I.ok.blt, I.ok.above, I.ok.inj, I.ok.has, I.ok.cab, (fun z => by cases z), I.ok.frames, I.ok.stk, I.ok.exf, I.ok.bs, I.ok.bsz, I.ok.noex, I.ok.exfs, I.ok.funs, I.ok.frf⟩, I.os, I.bare, I.base, I.loc, I.cell, I.free, I.freeC, I.pin, I.hok, I.len⟩
theorem InvW.offHold {X : Cx} {pins : List (Addr × Obj)} {σ : St} {H : Hp} {s : Shared} {v : Value} (ok : X.Ok) (I : InvW (Hd X v) pins σ H s) : InvW X pins σ H s :=
  ⟨ok, I.os, I.bare, I.base, I.loc, I.cell, I.free, I.freeC, I.pin, I.hok, I.len⟩

noncomputable def XE (X : Cx) (pins : List (Addr × Obj)) (σ : St) (E : XK) (e : Value) (s' : Shared) : Prop :=
  ∃ a C d c H', e = .ref a ∧ InvW X pins σ H' s' ∧ H' a = some (Exo a C d false c) ∧ Flt s'.heap a .none ∧ E (.ref a) none H'
noncomputable def PEE (X : Cx) (E : XK) (e : Expr) (t : TE) : Prop :=
  ∀ (pins : List (Addr × Obj)) (s : Shared) (σ : St) (H : Hp) (Q : VK), Inv X pins σ H s → t σ H Q → wpAny (model X.prog X.w) X.A (eval e X.env) (EP X pins σ Q) (XE X pins σ E) s

section
variable {X : Cx} {pins : List (Addr × Obj)} {σ : St} {H : Hp} {s : Shared}
theorem XE.of {E : XK} {e : Value} {s' : Shared} (I : Inv X pins σ H s) (h : CXe X.prog X.w X.stack H s E e s') : XE X pins σ E e s' := by
  obtain ⟨a, C, d, c, H', he, os, bare, un, hok, ha, hf, hE⟩ := h
  exact ⟨a, C, d, c, H', he, I.call' os un hok bare (fun b z => absurd z (by simp)), ha, hf, hE⟩
theorem gone_ok {M : Model} {A : Around} {E : Value → Shared → Prop} {i : Nat} {x : Str} {pos : Pos} {Q : Unit → Shared → Prop} (I : InvW X pins σ H s) (hN : X.N.Nodup) (hi : X.N[i]? = some x) (hx : X.env.scope.names.lookup x = some .local)
    (h : ∀ s', InvW X pins (σ.set i none) H s' → Q () s') : wpAny M A (do bindName X.env x .none; unbindBehindTheSuite X.env x pos) Q E s := by
  have hcls : (X.env.scope.kind == .class || (X.env.scope.kind == .module && X.env.locals != X.env.globals)) = false := by rw [I.ok.kind]; rfl
  have hiσ : i < σ.length := by rw [I.len]; exact (List.getElem?_eq_some_iff.mp hi).1
  have hk : X.env.kindOf x = some .local := hx
  refine wpAny_bind (wpAny_bindName (store_okW (v := .non) (u := .none) I hN hi (.inl hx) rfl (fun s₁ J => ?_) (.inr hx)))
  obtain ⟨m, hn, hl⟩ := id J.loc
  have hm : (m x).isSome = true := by
    obtain ⟨u, _, q⟩ := hl i x .non hi (by rw [List.getElem?_set_self hiσ]) (.inl hx)
    rcases q with ⟨_, e⟩ | ⟨e, _⟩
    · rw [e]; rfl
    · rcases e with e | e <;> (rw [hk] at e; cases e)
  unfold unbindBehindTheSuite
  refine wpAny_onRaise ?_
  unfold unbindName
  refine wpAny_bind (wpAny_point (wpAny_bind ?_))
  unfold deleteName
  simp only [hk, hcls]
  rw [if_neg (by decide)]
  refine wpAny_bind (wpAny_nsDel_keeps hn fun h₂ v hn₂ hs₂ => ?_)
  simp only [hm, if_true, Option.isSome_some, Bool.not_true, Bool.false_eq_true, if_false]
  refine wpAny_pure (wpAny_point (h _ ?_))
  have I := J
  have cne := I.cne
  obtain ⟨oL, _, _, hoL, _⟩ := id hn
  have ne : ∀ b o, X.s₀.heap.get? b = some o → b ≠ X.env.locals := fun b o e => Nat.ne_of_lt (Nat.lt_of_lt_of_le (Heap.lt_size e) I.ok.above)
  refine ⟨I.ok, I.os, I.bare, ⟨fun b o e n hb hx => (hs₂.2 b (ne b o e)).trans (I.base.keep b o e n hb hx), fun b o e n hb hx => ?_, I.base.free, fun b o e hx => ?_, I.base.tups, I.base.frzs, I.base.tbls⟩, ⟨_, hn₂, fun j y v' e1 e2 e3 => ?_⟩, fun y c e => ?_, I.free, I.freeC, fun p hp => ?_, fun b ob e => ?_, by simpa using I.len⟩
  · obtain ⟨sl, e1⟩ := I.base.slot b o e n hb hx
    exact ⟨sl, (hs₂.2 b (ne b o e)).trans e1⟩
  · obtain ⟨o', e1⟩ := I.base.there b o e hx
    exact ⟨o', (hs₂.2 b (ne b o e)).trans e1⟩
  · by_cases hj : j = i
    · subst hj
      rw [List.getElem?_set_self (by exact hiσ)] at e2
      cases e2
    · rw [List.getElem?_set_ne (Ne.symm hj)] at e2
      obtain ⟨u', r', q⟩ := hl j y v' e1 (by rw [List.getElem?_set_ne (Ne.symm hj)]; exact e2) e3
      refine ⟨u', r', ?_⟩
      rcases q with ⟨k, e⟩ | ⟨k, c, e, z⟩
      · refine .inl ⟨k, ?_⟩
        have : y ≠ x := fun e => hj (nodup_ix hN e1 (e ▸ hi))
        simp [this, e]
      · exact .inr ⟨k, c, e, z.sameBut hs₂ (cne y c e)⟩
  · obtain ⟨w', z⟩ := I.cell y c e
    exact ⟨w', z.sameBut hs₂ (cne y c e)⟩
  · obtain ⟨e, n, ne, nf, d⟩ := I.pin p hp
    exact ⟨(hs₂.2 p.1 ne).trans e, n, ne, nf, d⟩
  · refine (I.hok b ob e).stay (fun c w' hc q => (hs₂.2 c ?_).trans q) (fun _ q => q) fun _ _ q => q
    rintro rfl
    rcases hc with rfl | hc
    · rw [I.free] at e; cases e
    · rw [I.free] at hc; cases hc
end

section
variable {M : Model} {A : Around} {E : Value → Shared → Prop} {s : Shared}
theorem leaveX' {base : Heap} {env : Env} {outer : List Env} {L e : Addr} {oe : Obj} {vs : Array Value} {Q : Unit → Shared → Prop}
    (hfr : A.frames = some (env :: outer)) (hl : s.heap.FunFrames base (env :: outer)) (hf : env.frame = some L)
    (he : s.heap.get? e = some oe) (hd : oe.data = .fields vs) (h1 : vs[1]? = some .none ∨ Flt s.heap e .none)
    (h : ∀ h', Nts (frs (env :: outer)) e .none s.heap h' → Q () { s with heap := h' }) : wpAny M A (noteFrame (.ref e) env) (fun _ s₂ => wpAny M A (setFlight (.ref e) none) Q E s₂) E s := by
  refine noteX hfr hl hf he hd h1 fun h₁ N => ?_
  obtain ⟨k1, k2, k3, T, hT, k4⟩ := N
  refine flightX (s := { s with heap := h₁ }) k4 fun h₂ f1 f2 f3 _ => h h₂ ⟨fun b o hb hbe q => f2 b o (fun z => ?_) (k1 b o hb hbe q), fun b o hb q => ?_, fun oe vs q qd => ?_, T, hT, f1⟩
  · exact absurd (Nat.lt_of_lt_of_le (Heap.lt_size q) (z ▸ hT)) (Nat.lt_irrefl _)
  · obtain ⟨sl, q'⟩ := k2 b o hb q
    exact ⟨sl, f2 b _ (fun z => absurd (Nat.lt_of_lt_of_le (Heap.lt_size q) (z ▸ hT)) (Nat.lt_irrefl _)) q'⟩
  · obtain ⟨oe', vs', q1, q2⟩ := k3 oe vs q qd
    exact ⟨oe', vs', f2 e _ (fun z => absurd (Nat.lt_of_lt_of_le (Heap.lt_size q) (z ▸ hT)) (Nat.lt_irrefl _)) q1, q2⟩
theorem matchX {K : PySem.W.Frag} {C R e : Addr} {bm bm' : List Value} {oe : Obj} {h : Heap} {g : Array GenState} {d : Drawn} {t : Nat} {os : OsState} {Q : Bool → Shared → Prop} (X : K.In h) (xC : XCl K C bm) (xR : XCl K R bm') (he : h.get? e = some oe) (hcls : oe.cls = .ref C)
    (hq : Q ((Value.ref C :: bm).contains (.ref R)) ⟨h, g, d, t, os⟩) : wpAny M A (excMatches (.ref e) (.ref R)) Q E ⟨h, g, d, t, os⟩ := by
  obtain ⟨T, nm, q, N, bs, sn, sub, ab, col, dd, k0, k1, k2, k3, k5, hC⟩ := xC.at X
  obtain ⟨T', nm', q', N', bs', sn', sub', ab', col', dd', k0', k1', k2', k3', k5', hR⟩ := xR.at X
  have hcB : (Value.ref R :: bm').contains (.type "BaseException") = true := by rw [List.contains_cons, T'.hasType PySem.F.excBase_ValueError.hasBase, Bool.or_true]
  have f := tc_notTuple
  generalize hb : (Value.ref C :: bm).contains (.ref R) = b at hq
  unfold excMatches
  repeat (first | (with_reducible refine wpAny_loadPart_at he ?_; rw [hcls]) | with_reducible refine wpAny_loadPart_at hR ?_ | (with_reducible refine wpAny_isSubtype_exc hR ?_; rw [hcB]) | (with_reducible refine wpAny_isSubtype_exc hC ?_; rw [hb]) | wp_step)
  cases b <;> (wp_walk; exact hq)
end
end L2
set_option Elab.async false
set_option linter.all false
set_option maxRecDepth 100000
namespace L2
open PySem PySem.Spec PyProof.Rows
structure FncX (P : Program) (w : World) (K : PySem.W.Frag) (mg : Str → Option Value) (base : Heap) (x : Str) (ps : List Str) (k : Nat) (sp : Sp) : Prop where
  ex : ∃ (f : Addr) (fd : FuncData), mg x = some (.ref f) ∧ PySem.W.keepIn K (.ref f) = true ∧ Binds K fd ps [] ∧ FnOk P w K mg base (CXe P w) k f fd ps sp
theorem Df.okX {P : Program} {w : World} {K : PySem.W.Frag} {mg : Str → Option Value} {base : Heap} {x : Str} {st : Stmt} {N ps : List Str} {k : Nat} {sp : Sp} (D : Df K mg x st) (S : FnScope N ps (defScope st))
    (hb : ∀ (kV doc pm : Value) (an : Option Addr) (cdv ct : Value) (us : List Value), us.length = ps.length → bindArgs (PySem.W.fnOf x x (defArgs st) (defBody st) (defScope st) .none kV doc pm an cdv ct) ⟨us, []⟩ = pure (ps.zip us))
    (len : ∀ vs H Q E, sp vs H Q E → vs.length = ps.length)
    (hbody : ∀ (f : Addr) (cdv : Value) (A : Around) (outer : List Env) (s : Shared) (H : Hp) (vs : List V) (Q : VK) (E : XK), Room k (A.deeper (envOfC x (defScope st) s.heap.objs.size f cdv)) → sp vs H Q E →
      ∃ t, PSs (cxOf (CXe P w) P w K mg base N x (defScope st) f cdv A outer s H E) (defBody st) t ∧ t { nx := fun _ H' => Q .non H', rt := Q } (start N vs) H) : FncX P w K mg base x ps (k + 1) sp := by
  obtain ⟨f, fd, hm, F⟩ := D.ex
  refine ⟨f, fd, hm, F.kp, F.binds hb, ?_⟩
  obtain ⟨oc, od, kV, doc, pm, an, cdv, ct, osl, rfl, lk, hcd⟩ := F.ex
  exact fn_of lk hcd S len fun A outer s H vs Q E hr hsp => hbody f cdv A outer s H vs Q E hr hsp

section
variable {X : Cx} {E : XK} {x : Str} {ps : List Str} {k j : Nat} {sp : Sp} {e a b : Expr} {es : List Expr} {t : TA} {te tb : TE} {tt : TT} {p pos pos' : Pos}
theorem pee_fn (F : FncX X.prog X.w X.K X.mg X.base x ps j sp) (hr : Room k X.A) (hj : j ≤ k) (hg : Gl X x) (ha : PA X.nox (e :: es) t)
    (hdb : (x == ("__debug__" : Str)) = false := by decide) (he : starEach (e :: es) X.env = (false, eval e X.env) :: starEach es X.env := by rfl) (hpl : (backTo pos (starEach es X.env)).any (·.1) = false := by rfl) :
    PEE X E (.Call (.Name x p) (e :: es) [] pos) (tCall sp [] E t) := by
  obtain ⟨f, fd, hm, hk, hb, F⟩ := F.ex
  intro pins s σ H Q I h
  refine wpAny_Call_Name_kw (ld_glob I hg hm ?_ hdb)
  refine PySem.W.callWith_K (h₀ := X.base) I.ok.mod.kin hk (wt I.low (wpAny_mono (ha pos pins s σ H _ (I.wish _) h) (fun us s1 ⟨vs, H1, I0, r, q⟩ hl0 => ⟨I0.kIn, ?_⟩) fun _ _ z => False.elim z)) he hpl
  have I1 : Inv X pins σ H1 s1 := I0.unwish.up hl0
  have r2 : Vals (vs ++ []) (us ++ []) := r.append .nil
  have hl : (us ++ []).length = ps.length := by rw [← r2.length]; exact F.len _ _ _ _ q
  refine wpAny_call (codeAny_mono ((F.mono hj).run X.A X.stack s1 H1 ⟨us, []⟩ (us ++ []) (vs ++ []) Q E hr I1.env0 (hb s1 us I1.kIn hl) r2 q) fun r s' hq => ?_)
  cases r with
  | error e => exact XE.of I1 hq
  | ok fl =>
    cases fl with
    | ret u => exact I1.after hq
    | next => exact False.elim hq
    | brk => exact False.elim hq
    | cont => exact False.elim hq
noncomputable def PSE (X : Cx) (E : XK) (st : List Stmt) (t : TS) : Prop :=
  ∀ (pins : List (Addr × Obj)) (s : Shared) (σ : St) (H : Hp) (D : Ends), Inv X pins σ H s → t D σ H → wpAny (model X.prog X.w) X.A (execs st X.env) (SP X pins D) (XE X pins σ E) s
theorem pse_set {i : Nat} (hN : X.N.Nodup) (hi : X.N[i]? = some x) (hx : Loc X.env.scope x) (he : PEE X E e te) (hs : swapsWith e (some (.Name x pos')) pos.line X.env = pure false := by rfl) (hf : X.fn x = true ∨ X.env.scope.names.lookup x = some .local := by first | exact .inl rfl | exact .inr rfl | assumption) :
    PSE X E [.Assign [.Name x pos'] e pos] (tAsg te (gName i)) := by
  intro pins s σ H D I h
  refine wpAny_execs_cons (wpAny_Assign_Name (thn (he pins s σ H _ I h) fun v s1 zq1 => ?_) hs)
  obtain ⟨y, H1, I1, r1, q1⟩ := zq1
  exact store_ok I1 hN hi hx r1 (fun s2 I2 => wpAny_execs_nil ⟨_, H1, I2, q1⟩) hf

noncomputable def Ends.gone (D : Ends) (i : Nat) : Ends := { nx := fun σ H => D.nx (σ.set i none) H, rt := D.rt, bk := fun σ H => D.bk (σ.set i none) H, ct := fun σ H => D.ct (σ.set i none) H }
noncomputable def sTry (K : PySem.W.Frag) (R : Addr) (i : Nat) (tb : XK → TS) (ts : TS) : TS := fun D σ H =>
  tb (fun v _ H' => ∃ a C d c bm, v = .ref a ∧ H' a = some (Exo a C d false c) ∧ XCl K C bm ∧ (Value.ref C :: bm).contains (.ref R) = true ∧ ts (D.gone i) (σ.set i (some (.ref a))) H') D σ H
set_option maxHeartbeats 800000 in
theorem ps_try {n r : Str} {i : Nat} {R : Addr} {bmR : List Value} {body suite : List Stmt} {b₀ : Stmt} {np hpos : Pos} {tb : XK → TS} {ts : TS} (hst : X.stack = X.env :: X.outer) (hfr : X.env.frame = some X.env.locals) (hN : X.N.Nodup) (hi : X.N[i]? = some n) (hloc : X.env.scope.names.lookup n = some .local)
    (hg : Gl X r) (hm : X.mg r = some (.ref R)) (xR : XCl X.K R bmR) (hb : ∀ E, PSE X E body (tb E)) (hs : ∀ v, PSs (Hd X v) (b₀ :: suite) ts) (hdb : (r == ("__debug__" : Str)) = false := by decide) :
    PS X (.Try body [.ExceptHandler (some (.Name r np)) (some n) (b₀ :: suite) hpos] [] [] pos) (sTry X.K R i tb ts) := by
  intro pins s σ H D I h
  refine wpAny_Try_except (wpAny_with_toks I.low (wpAny_mono (hb _ pins s σ H D I h) (fun f s₁ hf _ => ?_) fun e s₁ he hlo => ?_))
  · cases f with
    | next => exact wpAny_execs_nil hf
    | brk => exact hf
    | cont => exact hf
    | ret u => exact hf
  · obtain ⟨a, C, d, cx, H', rfl, I1, ha, hF, a', C', d', cx', bm, ea', ha', xC, hc, ht⟩ := he
    cases ea'
    have hCC : C = C' := by
      obtain ⟨oe, vs, g1, g2, _⟩ := exo_get I1.hok ha
      obtain ⟨oe', vs', g1', g2', _⟩ := exo_get I1.hok ha'
      rw [g1] at g1'; cases g1'
      rw [g2] at g2'; cases g2'; rfl
    subst hCC
    obtain ⟨oe, vs, g1, g2, g3, g4, g5, g6⟩ := exo_get I1.hok ha
    refine leaveX' (base := X.base) (env := X.env) (outer := X.outer) (L := X.env.locals) (by rw [I.ok.frames, hst]) (by rw [← hst]; exact I1.stack) hfr g1 g4 (.inr hF) fun h' Nt => ?_
    obtain ⟨un, hok⟩ := nts_un I1.hok ha (by rw [← hst]; exact I1.stkFree) Nt
    have J := I1.call' (s' := { s₁ with heap := h' }) rfl (by rw [hst]; exact un) hok I1.bare (fun b z => absurd z (by simp))
    rw [upd_idem ha] at J
    obtain ⟨T, _, hT⟩ := Nt.fly
    have JH : Inv (Hd X (.ref a)) pins σ H' { s₁ with heap := h' } := (J.hold (.ref a)).up hlo
    refine wpAny_handleBy_cons (codeAny_handlers_test ?_) (by intro q; cases q)
    refine ld_glob (X := Hd X (.ref a)) JH hg hm ?_ hdb
    obtain ⟨oe2, vs2, k1, k2, _⟩ := exo_get J.hok ha
    refine matchX J.kIn xC xR k1 k2 ?_
    rw [hc]
    refine codeAny_handlers_suite_as ?_
    refine flightX (s := { s₁ with heap := h' }) hT fun h2 _ _ _ same => ?_
    have J2 : Inv (Hd X (.ref a)) pins σ H' { s₁ with heap := h2 } := (JH.kept (t' := s₁.toks) (fun b u q => (same rfl b).trans q)).up hlo
    refine store_ok (X := Hd X (.ref a)) J2 hN hi (.inl hloc) (v := .ref a) rfl (fun s₃ J3 => ?_) (.inr hloc)
    refine wpAny_mono (hs (.ref a) pins s₃ _ H' (D.gone i) J3 ht) (fun f s₄ hf => ?_) fun _ _ z => False.elim z
    cases f with
    | next => obtain ⟨σ', H2, J4, q⟩ := hf; exact gone_ok (J4.offHold I.ok) hN hi hloc fun s' K' => ⟨_, H2, K', q⟩
    | brk => obtain ⟨σ', H2, J4, q⟩ := hf; exact gone_ok (J4.offHold I.ok) hN hi hloc fun s' K' => ⟨_, H2, K', q⟩
    | cont => obtain ⟨σ', H2, J4, q⟩ := hf; exact gone_ok (J4.offHold I.ok) hN hi hloc fun s' K' => ⟨_, H2, K', q⟩
    | ret u => obtain ⟨v, σ', H2, J4, rv, q⟩ := hf; exact gone_ok (J4.offHold I.ok) hN hi hloc fun s' K' => ⟨v, _, H2, K', rv, q⟩
end
end L2
set_option Elab.async false
set_option linter.all false
set_option maxRecDepth 100000
namespace L2
open PySem PySem.Spec PyProof.Rows
section
variable {K : PySem.W.Frag} {C R N : Addr} {dd d0 : Option Addr} {c0 oc : Value} {cd cdR : ClassData} {k0 k1 k2 k3 k5 : Option Value} {sl sl' : Array (Option Value)} {es : Array DictEntry} {n : Nat} {bm bm' : List Value}
theorem tail_base : PySem.W.tailIn K bmV bmV = true := by
  unfold PySem.W.tailIn
  rw [beq_self_eq_true]; rfl
theorem nsok_of (l : K.lookup N = some ⟨oc, d0, .dict es n, sl'⟩) (h : (es.toList.all fun e => match e.key with | .str _ _ => true | _ => false) = true) : PySem.W.nsOkIn K N = true := by
  unfold PySem.W.nsOkIn; rw [l]; dsimp only; rw [← Array.all_toList]; exact h
theorem tail_own (l : K.lookup R = some ⟨c0, d0, .cls cdR, sl⟩) (ok : PySem.W.nsOkIn K cdR.ns = true) (ni : PySem.W.nsIn K cdR.ns "__init__" = some none) (t : PySem.W.tailIn K bmV bm = true) : PySem.W.tailIn K bmV (.ref R :: bm) = true := by
  unfold PySem.W.tailIn
  simp only [l, ok, ni, t, beq_self_eq_true, Bool.and_self, Bool.or_true]
theorem xcl_of (l : K.lookup C = some ⟨.type "type", dd, .cls cd, #[k0, k1, k2, k3, some (.builtin "ValueError.__new__"), k5]⟩) (m : cd.mro = .ref C :: bm) (h1 : cd.hasDel = false) (h2 : cd.hasDict = true) (t : PySem.W.tailIn K bmV bm = true) (kp : PySem.W.keepIn K (.ref C) = true) : XCl K C bm :=
  ⟨⟨dd, cd, k0, k1, k2, k3, k5, l, m, h1, h2⟩, t, kp⟩
theorem kit_ty {h : Heap} {T : String} {b : Bool} (X : K.In h) (xC : XCl K C bm) (hk : PySem.W.kitMeta T = true) (hb : bmV.contains (.type T) = b) : PySem.W.kitOne K (.ref C) (.type T) = some b := by
  unfold PySem.W.kitOne
  rw [if_neg (show ¬ (Value.ref C == Value.type T) = true from by simp)]
  unfold PySem.W.kitCls
  simp only [hk, if_true]
  exact xC.mro X hb
end
noncomputable def fillF : List (Str × V) → List (Str × V) → List (Str × V)
  | acc, [] => acc
  | acc, (f, y) :: r => fillF (putF f y acc) r
inductive spInit (names : List Str) (C : Addr) (vs : List V) (H : Hp) (Q : VK) (E : XK) : Prop
  | mk : ∀ a ys b cx, (vs = .ref a :: ys) → (ys.length = names.length) → (H a = some (Exo a C none b cx)) → (∀ dx, H dx = none → dx ≠ a → Q .non (upd (upd H a (Exo a C (some dx) b cx)) dx (Xdt dx (fillF [] (names.zip ys))))) → spInit names C vs H Q E
end L2
set_option Elab.async false
set_option linter.all false
set_option maxRecDepth 100000
namespace L2
open PySem PySem.Spec PyProof.Rows
structure XMk (P : Program) (w : World) (K : PySem.W.Frag) (mg : Str → Option Value) (base : Heap) (x : Str) (C : Addr) (names : List Str) (k : Nat) : Prop where
  at_ : mg x = some (.ref C)
  ca : XCa K C
  no : ∀ f ∈ names, PySem.W.findIn K (.ref C) f = some none
  ex : ∃ (f : Addr) (fd : FuncData) (bm : List Value), XCl K C bm ∧ PySem.W.findIn K (.ref C) "__init__" = some (some (.ref f)) ∧ PySem.W.isFn K (.ref f) = true ∧ Binds K fd ("self" :: names) [] ∧ FnOk P w K mg base CX0 k f fd ("self" :: names) (spInit names C)
noncomputable def tNewX (C : Addr) (names : List Str) (t : TA) : TE := fun σ H Q => t σ H fun ys H1 => ys.length = names.length ∧ names.length ≤ 900 ∧ ∀ a dx, H1 a = none → H1 dx = none → dx ≠ a →
  Q (.ref a) (upd (upd H1 a (Exo a C (some dx) true true)) dx (Xdt dx (fillF [] (names.zip ys))))
section
variable {X : Cx} {x : Str} {C : Addr} {names : List Str} {k j : Nat} {e : Expr} {es : List Expr} {t : TA} {p pos : Pos}
theorem pe_mk (M : XMk X.prog X.w X.K X.mg X.base x C names j) (hr : Room k X.A) (hj : j + 1 ≤ k) (hg : Gl X x) (ha : PA X (e :: es) t)
    (hdb : (x == ("__debug__" : Str)) = false := by decide) (he : starEach (e :: es) X.env = (false, eval e X.env) :: starEach es X.env := by rfl) (hpl : (backTo pos (starEach es X.env)).any (·.1) = false := by rfl) :
    PE X (.Call (.Name x p) (e :: es) [] pos) (tNewX C names t) := by
  obtain ⟨f, fd, bm, xc, hi, hf, hb, F⟩ := M.ex
  intro pins s σ H Q I h
  refine wpAny_Call_Name_kw (ld_glob I hg M.at_ ?_ hdb)
  refine PySem.W.callWith_K (h₀ := X.base) I.ok.mod.kin xc.kp (thn (ha pos pins s σ H _ I h) fun us s1 ⟨vs, H1, I1, r, hl, hn, q⟩ => ⟨I1.kIn, ?_⟩) he hpl
  refine run_makeX (k := j) xc hi hf F (hr.mono hj) hb I1 r ⟨by omega, fun a h0 => ⟨a, vs, true, true, rfl, hl, upd_same .., fun dx hdx ne => ⟨rfl, ?_⟩⟩⟩
  rw [upd_upd]
  exact q a dx h0 (by rw [upd_ne ne] at hdx; exact hdx) ne
end

section
variable {K : PySem.W.Frag} {C dx a : Addr} {b : Bool} {H : Hp}
end

section
variable {X : Cx} {K : PySem.W.Frag} {e : Expr} {f : Str} {pos : Pos} {ta : TE}
theorem call_isxK (hK : X.K = K) : CallR X (.builtin "isinstance") (rIsx K) := by subst hK; exact call_isx
theorem pe_fxK (hK : X.K = K) (he : PE X e ta) (hb : attributeBase e f X.env (eval e X.env) = eval e X.env) : PE X (.Attribute e f pos) (tFx K ta f) := by subst hK; exact pe_fx he hb
end
end L2
set_option Elab.async false
set_option linter.all false
set_option maxRecDepth 100000
namespace L2
open PySem PySem.Spec PyProof.Rows
section
variable {X : Cx} {E : XK} {e a b c : Expr} {te ta tb : TE} {tA : TT} {pos : Pos}

end
end L2
set_option Elab.async false
set_option linter.all false
set_option maxRecDepth 100000
namespace L2
open PySem PySem.Spec PyProof.Rows Wd
section
variable {X : Cx}
inductive rInsert (x : V) (vs : List V) (H : Hp) (Q : VK) : Prop
  | mk : ∀ l xs i y, (x = .ref l) → (vs = [.int i, y]) → (H l = some (.lst xs)) → (0 ≤ i) → (i ≤ xs.length) → (xs.length < sizeLine) → (Q .non (upd H l (.lst (xs.take i.toNat ++ y :: xs.drop i.toNat)))) → rInsert x vs H Q
theorem mt_insert : MtM X "list.insert" rInsert := by
  intro pins s σ H x vs v us Q I rx rv h
  obtain ⟨l, xs, i, y, rfl, rfl, hH, h0, h1, hz, q⟩ := h
  cases rx
  obtain ⟨u1, u2, rfl, ⟨t1, rfl⟩, r2⟩ := vals2 rv
  obtain ⟨z, its, n, r, hl, e⟩ := I.lstM hH
  have hn := line63
  have hfit : Builtin.List.listFitsIndex i = true := by
    unfold Builtin.List.listFitsIndex
    rw [Bool.and_eq_true, decide_eq_true_eq, decide_eq_true_eq]
    constructor <;> omega
  refine call_meets PySem.F.slot_list_insert ⟨_, e, rfl⟩ PySem.F.entry_list_insert (PySem.F.args_list_insert_3 _ _ _) (PySem.AutoSeq1.list_insert_list_int_val_1 l its.toArray n i t1 u2 (by simp [hfit]) (by rw [List.size_toArray]; omega)) ⟨e, ?_⟩
  refine ⟨.non, _, I.lset (its' := its.take i.toNat ++ u2 :: its.drop i.toNat) hH e ?_ ((r.take _).append (.cons r2 (r.drop _))) ?_, rfl, q⟩
  · have hm : min i.toNat its.length = i.toNat := by omega
    simp only [List.size_toArray, if_neg (show ¬ i < 0 by omega), hm]
    apply Array.toList_inj.mp
    simp
    exact List.take_of_length_le (by rw [List.length_drop]; exact Nat.le_refl _)
  · rw [List.length_append, List.length_cons, List.length_take, List.length_drop]
    omega
end
end L2
set_option Elab.async false
set_option linter.all false
set_option maxRecDepth 100000
namespace L2
open PySem PySem.Spec PyProof.Rows
section
variable {X : Cx}
end
end L2
set_option Elab.async false
set_option linter.all false
set_option maxRecDepth 100000
namespace L2
open PySem PySem.Spec PyProof.Rows
section
variable {prog : Program} {w : World} {A : Around} {E : Value → Shared → Prop} {s : Shared}
theorem collect_text {Q : List Value → Shared → Prop} (hh : A.handled = none) (z : Str) (t : Tok) (hn : z.cps.size ≤ sizeLine)
    (k : ∀ (h' : Heap) (tk : Nat) (acc : Array Value), (∀ b o, s.heap.get? b = some o → h'.get? b = some o) → s.heap.objs.size < h'.objs.size → ItemsOf (SignAt z) acc z.cps.size → Q acc.toList { s with heap := h', toks := tk }) :
    wpAny (model prog w) A (collect (.str z t)) Q E s := by
  unfold collect
  refine (wpAny_bind (wpAny_runValue (codeAny_builtin F.entry_proto_collect ?_)))
  rw [Around.under_plainId F.plain_proto_collect _]
  show wpAny _ A.in1 (newList [] >>= fun q => again (.builtin "list.__iadd__" ⟨[q, .str z t], []⟩)) _ _ s
  refine (wpAny_bind (wpAny_newObj_type (wpAny_pure ⟨plainId_quiet F.plain_list_iadd _, codeAny_builtin F.entry_list_iadd ?_⟩)))
  rw [Around.under_plainId F.plain_list_iadd _]
  have hS : (s.heap.push { cls := .type "list", data := .seq ([] : List Value).toArray }).get? s.heap.objs.size = some { cls := .type "list", data := .seq #[] } := Heap.get?_push_size _ rfl
  show wpAny _ A.in1 (Builtin.List.listExtendWith (.ref s.heap.objs.size) (.str z t) (.ref s.heap.objs.size)) _ _ { s with heap := s.heap.push { cls := .type "list", data := .seq ([] : List Value).toArray } }
  refine wpAny_extend_str (R := fun r s' => match r with
    | .ok (.ret v) => wpAny (model prog w) A (match v with
      | .ref a => do
        match (← load a).data with
        | .seq xs _ => pure xs.toList
        | _ => unsupported "internal:collect"
      | _ => unsupported "internal:collect") Q E s'
    | .ok _ => False
    | .error e => E e s') (s := { s with heap := s.heap.push { cls := .type "list", data := .seq ([] : List Value).toArray } }) (hn := hn) hh z t s.heap.objs.size (.ref s.heap.objs.size) _ hS fun h' tk acc c' hk hS' hacc => ?_
  show wpAny _ A (load s.heap.objs.size >>= _) _ _ { s with heap := h', toks := tk }
  exact wpAny_bind (wpAny_load hS' (wpAny_pure (k h' tk acc (fun b o e => hk b o (Nat.ne_of_lt (Heap.lt_size e)) (Heap.get?_push_of_some _ e)) (Heap.lt_size hS') hacc)))
end
section
variable {X : Cx}
noncomputable def signsT (z : Str) : List Str := z.cps.toList.map fun c => ⟨#[c]⟩
theorem signs_T (z : Str) : signs z = (signsT z).map V.str := by unfold signs signsT; rw [List.map_map]; rfl
inductive call_sorted_text_r  (xs : List V) (H : Hp) (Q : VK) : Prop
  | mk : ∀ z, (xs = [.str z]) → (z.length < 64) → (∀ p zs, H p = none → zs.Perm (signsT z) → sortedS zs = true → Q (.ref p) (upd H p (.lst (zs.map V.str)))) → call_sorted_text_r xs H Q
theorem call_sorted_text (hc : X.calm = true) : CallR X (.builtin "sorted") call_sorted_text_r := by
  intro pins s σ H xs us Q I r h
  obtain ⟨z, rfl, hz, q⟩ := h
  obtain ⟨u, rfl, t, rfl⟩ := vals1 r
  have l16 : sizeLine = 16777216 := sizeLine_eq
  refine (Calls.call_function_entry kind_sorted plain_sorted entry_sorted (args_sorted1 _) ?_)
  unfold Builtin.«sorted»
  refine (wpAny_bind (m := checkCount "sorted" 1 1 _) (wpAny_pure ?_))
  refine wpAny_bind (collect_text (A := X.A.in1) (I.ok.hd hc) z t (by have : z.cps.size < 64 := hz; omega) fun h' tk acc hk hlt hI => ?_)
  have hv : Vals (signs z) acc.toList := vals_signs hI
  rw [signs_T] at hv
  have hS := strsAre_of hv
  have hlen : acc.toList.length = z.length := by
    rw [← hv.length, List.length_map]
    unfold signsT
    rw [List.length_map, Array.length_toList]
    rfl
  refine (wpAny_bind (wpAny_newList ?_))
  have hoL : (h'.push (seqObj "list" acc.toList.toArray 0)).get? h'.objs.size = some (seqObj "list" acc.toList.toArray 0) := Heap.get?_push_size _ rfl
  refine (wpAny_bind (wpAny_holding (wpAny_call_entry slot_list_sort ⟨_, hoL, rfl⟩ entry_list_sort (list_sort_treeK strKind_oneLt hoL hS.keysOf (fun v₁ v₂ rest e => keyKind_strs (by rw [← e]; exact hS)) (by omega) fun st' a1 a2 => ⟨_, rfl, ?_⟩) (args_list_sort _))))
  obtain ⟨zs, h1, h2, h3⟩ := sorted_out_str hS a1 a2
  refine wpAny_pure ⟨_, rfl, ?_⟩
  obtain ⟨e, he⟩ := sortedHeap_at (out := (arrOf st').map (·.2)) hoL
  have hzl : (zs.map V.str).length ≤ sizeLine := by
    rw [List.length_map, h2.length_eq]
    unfold signsT
    rw [List.length_map, Array.length_toList]
    have : z.cps.size < 64 := hz
    omega
  have old : ∀ b o, s.heap.get? b = some o → (sortedHeap (h'.push (seqObj "list" acc.toList.toArray 0)) h'.objs.size acc.toList ((arrOf st').map (·.2))).get? b = some o := fun b o eb => by
    have e1 := hk b o eb
    have e2 := Heap.lt_size e1
    rw [sortedHeap_old (Nat.ne_of_lt e2) (by rw [Heap.size_push]; exact Nat.lt_succ_of_lt e2)]
    exact Heap.get?_push_of_some _ e1
  have I2 : InvW X pins σ (upd H h'.objs.size (.lst (zs.map V.str))) { s with heap := sortedHeap (h'.push (seqObj "list" acc.toList.toArray 0)) h'.objs.size acc.toList ((arrOf st').map (·.2)), toks := tk } :=
    I.laid old (Nat.le_of_lt hlt) ⟨hzl, ((arrOf st').map (·.2)).toList, e, vals_of_strs h1, by rw [Array.toArray_toList]; exact he⟩
  exact ⟨.ref h'.objs.size, _, I2, rfl, q _ zs (I.hok.fresh (Nat.le_of_lt hlt)) h2 h3⟩
end
end L2
namespace L2
open PySem PySem.Spec PyProof.Rows
section
variable {X : Cx}
end
end L2
namespace L2
open PySem PySem.Spec PyProof.Rows
section
variable {X : Cx}
end
end L2
set_option Elab.async false
set_option linter.all false
set_option maxRecDepth 100000
set_option maxHeartbeats 0
namespace Wd
structure Srf (u : List L) : Prop where
  ne : u ≠ []
  nd : u.Nodup
  iv : ∀ x ∈ u, inv x ∈ u
  le : u.length ≤ 12
noncomputable def fam (k : Nat) : List L := (List.range k).flatMap fun j => if h : j < 6 then [⟨j, by omega⟩, ⟨j + 6, by omega⟩] else []
theorem fam_ok : ∀ k : Fin 7, (fam k.val).Nodup ∧ (∀ x ∈ fam k.val, inv x ∈ fam k.val) ∧ (fam k.val).length = 2 * k.val := by decide
theorem srf_of {k : Nat} {u : List L} (h1 : 1 ≤ k) (h6 : k ≤ 6) (p : u.Perm (fam k)) : Srf u := by
  obtain ⟨a, b, c⟩ := fam_ok ⟨k, by omega⟩
  have hl := p.length_eq
  have c : (fam k).length = 2 * k := c
  refine ⟨fun e => ?_, (p.nodup_iff).mpr a, fun x hx => p.mem_iff.mpr (b x (p.mem_iff.mp hx)), by omega⟩
  subst e
  rw [c] at hl
  simp at hl
  omega
end Wd
namespace Kx
open PySem PySem.Spec PyProof.Rows L2 Wd
end Kx
set_option linter.all false
namespace Wd
end Wd
set_option Elab.async false
set_option linter.all false
set_option maxRecDepth 100000
set_option maxHeartbeats 0
namespace Wd
structure SK (u : List L) (k : Nat) : Prop where
  pm : u.Perm (fam k)
  lo : 1 ≤ k
  hi : k ≤ 6
theorem SK.srf {u : List L} {k : Nat} (h : SK u k) : Srf u := srf_of h.lo h.hi h.pm
theorem fam_mem : ∀ (k : Fin 7) (x : L), x ∈ fam k.val ↔ x.val % 6 < k.val := by decide
theorem SK.mem {u : List L} {k : Nat} (h : SK u k) (x : L) : x ∈ u ↔ x.val % 6 < k := by
  rw [h.pm.mem_iff]
  exact fam_mem ⟨k, by have := h.hi; omega⟩ x
theorem get_idx {u : List L} {x : L} (h : x ∈ u) : u[u.idxOf x]? = some x := by
  have hlt := List.idxOf_lt_length_of_mem h
  rw [List.getElem?_eq_getElem hlt]
  exact congrArg some (List.getElem_idxOf hlt)
theorem idx_lt {u : List L} {x : L} (h : x ∈ u) : u.idxOf x < u.length := List.idxOf_lt_length_of_mem h
theorem idx_inj {u : List L} {x y : L} (hx : x ∈ u) (hy : y ∈ u) (h : u.idxOf x = u.idxOf y) : x = y := by
  have h1 := get_idx hx
  have h2 := get_idx hy
  rw [h, h2] at h1
  exact (Option.some.inj h1).symm
noncomputable def rfI (u : List L) (a b : L) : Int := ((u.idxOf b : Int) - (u.idxOf a : Int)) % (u.length : Int)
theorem mod_val {n a b : Nat} (ha : a < n) (hb : b < n) : ((b : Int) - (a : Int)) % (n : Int) = if a ≤ b then (b : Int) - a else (b : Int) - a + n := by
  split
  · exact Int.emod_eq_of_lt (by omega) (by omega)
  · have : (b : Int) - a = ((b : Int) - a + n) + (n : Int) * (-1) := by omega
    rw [this, Int.add_mul_emod_self_left, Int.emod_eq_of_lt (by omega) (by omega)]
    omega
theorem rf_val {u : List L} {a b : L} (ha : a ∈ u) (hb : b ∈ u) : rfI u a b = if u.idxOf a ≤ u.idxOf b then (u.idxOf b : Int) - (u.idxOf a : Int) else (u.idxOf b : Int) - (u.idxOf a : Int) + (u.length : Int) := mod_val (idx_lt ha) (idx_lt hb)
noncomputable def ic (u : List L) (x z : L) : Int := if rfI u x z < rfI u x (inv x) then 1 else 0
noncomputable def sd (u : List L) (x y : L) : Int := ic u x y - ic u x (inv y)
structure Four (u : List L) (x y : L) : Prop where
  mx : x ∈ u
  mX : inv x ∈ u
  my : y ∈ u
  mY : inv y ∈ u
  n1 : u.idxOf x ≠ u.idxOf (inv x)
  n2 : u.idxOf x ≠ u.idxOf y
  n3 : u.idxOf x ≠ u.idxOf (inv y)
  n4 : u.idxOf (inv x) ≠ u.idxOf y
  n5 : u.idxOf (inv x) ≠ u.idxOf (inv y)
  n6 : u.idxOf y ≠ u.idxOf (inv y)
theorem four_of {u : List L} (U : Srf u) {x y : L} (hx : x ∈ u) (hy : y ∈ u) (h1 : x ≠ y) (h2 : x ≠ inv y) : Four u x y := by
  have hX := U.iv x hx
  have hY := U.iv y hy
  refine ⟨hx, hX, hy, hY, fun e => inv_ne x (idx_inj hx hX e).symm, fun e => h1 (idx_inj hx hy e), fun e => h2 (idx_inj hx hY e), fun e => h2 ?_, fun e => h1 ?_, fun e => inv_ne y (idx_inj hy hY e).symm⟩
  · rw [← idx_inj hX hy e, inv_inv]
  · have := congrArg inv (idx_inj hX hY e)
    rw [inv_inv, inv_inv] at this
    exact this
theorem Four.swap {u : List L} {x y : L} (F : Four u x y) : Four u y x := ⟨F.my, F.mY, F.mx, F.mX, F.n6, F.n2.symm, F.n4.symm, F.n3.symm, F.n5.symm, F.n1⟩
theorem sd_anti {u : List L} {x y : L} (F : Four u x y) : sd u y x = - sd u x y := by
  have a1 := idx_lt F.mx
  have a2 := idx_lt F.mX
  have a3 := idx_lt F.my
  have a4 := idx_lt F.mY
  have n1 := F.n1; have n2 := F.n2; have n3 := F.n3; have n4 := F.n4; have n5 := F.n5; have n6 := F.n6
  unfold sd ic
  rw [rf_val F.mx F.my, rf_val F.mx F.mX, rf_val F.mx F.mY, rf_val F.my F.mx, rf_val F.my F.mY, rf_val F.my F.mX]
  generalize u.idxOf x = a at *
  generalize u.idxOf (inv x) = b at *
  generalize u.idxOf y = c at *
  generalize u.idxOf (inv y) = d at *
  generalize u.length = n at *
  grind
noncomputable def sumN : Nat → (Nat → Int) → Int
  | 0, _ => 0
  | n + 1, f => sumN n f + f n
theorem sumN_congr {f g : Nat → Int} : ∀ (n : Nat), (∀ i, i < n → f i = g i) → sumN n f = sumN n g
  | 0, _ => rfl
  | n + 1, h => by
    show sumN n f + f n = sumN n g + g n
    rw [sumN_congr n fun i hi => h i (by omega), h n (by omega)]
theorem sumN_zero {f : Nat → Int} (n : Nat) (h : ∀ i, i < n → f i = 0) : sumN n f = 0 := by
  rw [sumN_congr n h]
  clear h
  induction n with
  | zero => rfl
  | succ n ih =>
    show sumN n (fun _ => 0) + 0 = 0
    rw [ih]
    rfl
theorem sumN_add (f g : Nat → Int) : ∀ n, sumN n (fun i => f i + g i) = sumN n f + sumN n g
  | 0 => rfl
  | n + 1 => by
    show sumN n (fun i => f i + g i) + (f n + g n) = (sumN n f + f n) + (sumN n g + g n)
    rw [sumN_add f g n]
    omega
theorem sumN_single {f : Nat → Int} {j : Nat} : ∀ (n : Nat), j < n → (∀ i, i < n → i ≠ j → f i = 0) → sumN n f = f j
  | 0, h, _ => absurd h (Nat.not_lt_zero _)
  | n + 1, h, hz => by
    show sumN n f + f n = f j
    by_cases e : j = n
    · subst e
      rw [sumN_zero j fun i hi => hz i (by omega) (by omega), Int.zero_add]
    · rw [sumN_single n (by omega) fun i hi => hz i (by omega), hz n (by omega) (fun e' => e e'.symm), Int.add_zero]
noncomputable def lt6 (j : Nat) : L := if h : j < 12 then ⟨j, h⟩ else 0
noncomputable def dfi (w : List L) (x : L) : Int := ((w.count x : Nat) : Int) - ((w.count (inv x) : Nat) : Int)
theorem lt6_val {j : Nat} (h : j < 6) : (lt6 j).val = j := by
  unfold lt6
  rw [dif_pos (by omega)]
theorem small_mod : ∀ x : L, x.val < 6 → (inv x).val = x.val + 6 := by decide
theorem SK.four {u : List L} {k : Nat} (h : SK u k) {x y : Nat} (hx : x < k) (hy : y < k) (hn : x ≠ y) : Four u (lt6 x) (lt6 y) := by
  have h6 := h.hi
  have vx := lt6_val (show x < 6 by omega)
  have vy := lt6_val (show y < 6 by omega)
  refine four_of h.srf ((h.mem _).mpr (by rw [vx]; omega)) ((h.mem _).mpr (by rw [vy]; omega)) (fun e => hn ?_) (fun e => ?_)
  · rw [← vx, ← vy, e]
  · have := small_mod (lt6 y) (by omega)
    rw [← e] at this
    omega
theorem dfi_app (v w : List L) (x : L) : dfi (v ++ w) x = dfi v x + dfi w x := by
  unfold dfi
  rw [List.count_append, List.count_append]
  omega
theorem dfi_nil (x : L) : dfi [] x = 0 := rfl
noncomputable def tau (u : List L) (y l : L) : Int := if l = y ∨ l = inv y then 0 else ic u y (inv l) - ic u y l
noncomputable def tsum (u : List L) (y : L) : List L → Int
  | [] => 0
  | l :: w => tau u y l + tsum u y w
theorem dfi_one (l x : L) : dfi [l] x = (if l = x then 1 else 0) - (if l = inv x then 1 else 0) := by
  have c : ∀ a b : L, (([a].count b : Nat) : Int) = if a = b then 1 else 0 := fun a b => by
    rw [List.count_singleton]
    by_cases h : a = b
    · rw [if_pos h, h]
      simp
    · rw [if_neg h]
      simp [h]
  unfold dfi
  rw [c, c]
theorem l_small : ∀ l : L, l = lt6 (l.val % 6) ∨ l = inv (lt6 (l.val % 6)) := by decide
theorem l_other : ∀ (l : L) (x : Fin 6), x.val ≠ l.val % 6 → l ≠ lt6 x.val ∧ l ≠ inv (lt6 x.val) := by decide
theorem l_both : ∀ l : L, ¬ (l = lt6 (l.val % 6) ∧ l = inv (lt6 (l.val % 6))) := by decide
theorem z_one {u : List L} {k : Nat} (h : SK u k) {y : Nat} (hy : y < k) {l : L} (hl : l ∈ u) : sumN k (fun x => if x = y then 0 else dfi [l] (lt6 x) * sd u (lt6 x) (lt6 y)) = tau u (lt6 y) l := by
  have h6 := h.hi
  have hj := (h.mem l).mp hl
  rw [sumN_single k hj]
  · unfold tau
    by_cases e : l.val % 6 = y
    · subst e
      rw [if_pos rfl, if_pos (l_small l)]
    · rw [if_neg e]
      have q := l_other l ⟨y, by omega⟩ (fun z => e z.symm)
      rw [if_neg (fun z => z.elim q.1 q.2), dfi_one]
      have F := h.four hj hy e
      have an := sd_anti F.swap
      rcases l_small l with e1 | e1
      · have e2 : ¬ l = inv (lt6 (l.val % 6)) := fun z => l_both l ⟨e1, z⟩
        rw [if_pos e1, if_neg e2, an, ← e1]
        unfold sd
        omega
      · have e2 : ¬ l = lt6 (l.val % 6) := fun z => l_both l ⟨z, e1⟩
        have e3 : lt6 (l.val % 6) = inv l := by rw [e1, inv_inv, ← e1]
        rw [if_neg e2, if_pos e1, an, e3]
        unfold sd
        rw [inv_inv]
        omega
  · intro i hi hn
    by_cases e : i = y
    · rw [if_pos e]
    · rw [if_neg e, dfi_one]
      have q := l_other l ⟨i, by omega⟩ hn
      rw [if_neg q.1, if_neg q.2]
      omega
theorem z_all {u : List L} {k : Nat} (h : SK u k) {y : Nat} (hy : y < k) : ∀ w : List L, (∀ l ∈ w, l ∈ u) → sumN k (fun x => if x = y then 0 else dfi w (lt6 x) * sd u (lt6 x) (lt6 y)) = tsum u (lt6 y) w
  | [], _ => sumN_zero k fun x _ => by
    split
    · rfl
    · rw [dfi_nil, Int.zero_mul]
  | l :: w, hw => by
    have ih := z_all h hy w fun z hz => hw z (List.mem_cons_of_mem _ hz)
    show _ = tau u (lt6 y) l + tsum u (lt6 y) w
    rw [← ih, ← z_one h hy (hw l List.mem_cons_self), ← sumN_add]
    refine sumN_congr k fun x _ => ?_
    have e : dfi (l :: w) (lt6 x) = dfi [l] (lt6 x) + dfi w (lt6 x) := dfi_app [l] w (lt6 x)
    rw [e]
    split
    · rfl
    · rw [Int.add_mul]
end Wd
set_option Elab.async false
set_option linter.all false
set_option maxRecDepth 100000
set_option maxHeartbeats 0
namespace L2
open PySem PySem.Spec PyProof.Rows
section
variable {X : Cx}
inductive rEqLs (x : V) (y : V) (H : Hp) (Q : VK) : Prop
  | mk : ∀ (a b : Addr) (ys zs : List Str), (x = .ref a) → (y = .ref b) → (H a = some (.lst (ys.map V.str))) → (H b = some (.lst (zs.map V.str))) → (Q (.bl (decide (ys = zs))) H) → rEqLs x y H Q
theorem op_eq_ls (hu : X.A.units + 64 < cLine) : OpR X (compareOp .Eq) rEqLs := by
  intro pins s σ H x y v u Q I rx ry h
  obtain ⟨a, b, ys, zs, ex, ey, ha, hb, q⟩ := h
  by_cases hl : ys.length = zs.length
  · exact op_eq_ss hu pins s σ H x y v u Q I rx ry ⟨a, b, ys, zs, ex, ey, ha, hb, hl, q⟩
  · subst ex ey
    cases rx
    cases ry
    obtain ⟨its, n, rv, ea, _⟩ := I.lst ha
    obtain ⟨its2, n2, rv2, eb, _⟩ := I.lst hb
    have l1 := rv.length
    have l2 := rv2.length
    rw [List.length_map] at l1 l2
    refine EqBoolInt.of_rc (SeqAt.RcAt.lists_lengths (⟨_, ea, rfl, _, rfl⟩ : s.heap.IsList a its.toArray) (⟨_, eb, rfl, _, rfl⟩ : s.heap.IsList b its2.toArray) (by simp; omega) (by omega)) ?_
    rw [decide_eq_false (fun e => hl (by rw [e]))] at q
    exact ⟨.bl false, H, I, rfl, q⟩
end
end L2
namespace Kx
open PySem PySem.Spec PyProof.Rows L2 Wd
theorem rising_pw : ∀ (r : List Str) (x : Str), risingS x r = true → (x :: r).Pairwise fun a b => a.cps.toList ≤ b.cps.toList
  | [], x, _ => by simp
  | z :: r, x, h => by
    have l := least_rising (z :: r) x h
    unfold risingS at h
    rw [Bool.and_eq_true] at h
    exact List.Pairwise.cons (fun y hy => l.2 y (List.mem_cons_of_mem _ hy)) (rising_pw r z h.2)
theorem sorted_pw {l : List Str} (h : sortedS l = true) : l.Pairwise fun a b => a.cps.toList ≤ b.cps.toList := by
  cases l with
  | nil => exact .nil
  | cons x r => exact rising_pw r x h
theorem sorted_one {a b : List Str} (ha : sortedS a = true) (hb : sortedS b = true) (p : a.Perm b) : a = b :=
  List.Perm.eq_of_pairwise (fun x y _ _ h1 h2 => Str.ext' (Array.toList_inj.mp (List.le_antisymm h1 h2))) (sorted_pw ha) (sorted_pw hb) p
theorem signs_perm {x y : Str} : (signsT x).Perm (signsT y) ↔ x.cps.toList.Perm y.cps.toList := by
  unfold signsT
  constructor
  · intro h
    have := h.map (fun s : Str => s.cps.getD 0 0)
    rw [List.map_map, List.map_map] at this
    have e : ((fun s : Str => s.cps.getD 0 0) ∘ fun c => (⟨#[c]⟩ : Str)) = id := by funext c; rfl
    rw [e, List.map_id, List.map_id] at this
    exact this
  · intro h
    exact h.map _
noncomputable def ends (k : Nat) : List L := (List.range k).map lt6 ++ bk ((List.range k).map lt6)
noncomputable def surfB (z : Str) : Bool := decide (2 ≤ z.length) && decide (z.length ≤ 12) && decide (z.cps.toList.Perm ((ends (z.length / 2)).map cp))
noncomputable def surfV : V → Bool
  | .str z => surfB z
  | _ => false
theorem surfV_oth {x : V} (ns : ∀ z, x ≠ .str z) : surfV x = false := by
  cases x with
  | str z => exact absurd rfl (ns z)
  | _ => rfl
theorem nodup_perm {α : Type} [DecidableEq α] : ∀ (T Z : List α), T.Nodup → (∀ t ∈ T, t ∈ Z) → T.length = Z.length → Z.Perm T
  | [], Z, _, _, h => by
    have : Z = [] := List.eq_nil_of_length_eq_zero h.symm
    rw [this]
  | t :: T, Z, nd, hs, hl => by
    rw [List.nodup_cons] at nd
    have ht := hs t List.mem_cons_self
    refine (List.perm_cons_erase ht).trans (List.Perm.cons t (nodup_perm T (Z.erase t) nd.2 (fun x hx => ?_) ?_))
    · have hne : x ≠ t := fun e => nd.1 (e ▸ hx)
      exact (List.mem_erase_of_ne hne).mpr (hs x (List.mem_cons_of_mem _ hx))
    · rw [List.length_erase_of_mem ht]
      simp only [List.length_cons] at hl
      omega
end Kx
set_option Elab.async false
set_option linter.all false
set_option maxRecDepth 100000
set_option maxHeartbeats 0
namespace L2
open PySem PySem.Spec PyProof.Rows
noncomputable def V.w : V → V
  | .tks x _ => .str x
  | v => v
theorem RelV.w {v : V} {u : Value} (r : RelV v u) : RelV v.w u := by
  cases v with
  | tks x t => exact ⟨t, r⟩
  | _ => exact r
noncomputable def tWk (t : TE) : TE := fun σ H Q => t σ H fun v H1 => Q v.w H1
theorem pe_wk {X : Cx} {e : Expr} {t : TE} (h : PE X e t) : PE X e (tWk t) := fun pins s σ H Q I q =>
  thw (h pins s σ H _ I q) fun u s' ⟨v, H', I', r, q⟩ => ⟨v.w, H', I', r.w, q⟩
noncomputable abbrev SpT := Nat → Sp
structure FnOkT (P : Program) (w : World) (K : PySem.W.Frag) (mg : Str → Option Value) (base : Heap) (CX : CXT) (k : Nat) (f : Addr) (fd : FuncData) (ps : List Str) (sp : SpT) : Prop where
  len : ∀ n vs H Q E, sp n vs H Q E → vs.length = ps.length
  run : ∀ (A : Around) (outer : List Env) (s : Shared) (H : Hp) (args : Args) (us : List Value) (vs : List V) (Q : VK) (E : XK), Room k A → Env0 P w K mg base A outer s H → BindsTo s fd args (ps.zip us) → Vals vs us → sp s.toks vs H Q E →
    codeAny (model P w) A (.call (.ref f) args) (CR CX outer P w H s Q E) s
theorem FnOkT.mono {P : Program} {w : World} {K : PySem.W.Frag} {mg : Str → Option Value} {base : Heap} {CX : CXT} {j k : Nat} {f : Addr} {fd : FuncData} {ps : List Str} {sp : SpT} (F : FnOkT P w K mg base CX j f fd ps sp) (h : j ≤ k) :
    FnOkT P w K mg base CX k f fd ps sp := ⟨F.len, fun A outer s H args us vs Q E hr => F.run A outer s H args us vs Q E (hr.mono h)⟩
theorem fn_ofT {CX : CXT} {P : Program} {w : World} {K : PySem.W.Frag} {mg : Str → Option Value} {base : Heap} {k : Nat} {f : Addr} {name qual : Str} {params : Arguments} {body : List Stmt} {scope : Scope} {dV kV doc pm cdv ct oc : Value} {an od : Option Addr}
    {osl : Array (Option Value)} {N ps : List Str} {sp : SpT} (lk : K.lookup f = some ⟨oc, od, .func (PySem.W.fnOf name qual params body scope dV kV doc pm an cdv ct), osl⟩) (hcd : PySem.W.codeIn K cdv qual = true) (S : FnScope N ps scope)
    (len : ∀ n vs H Q E, sp n vs H Q E → vs.length = ps.length)
    (hbody : ∀ (A : Around) (outer : List Env) (s : Shared) (H : Hp) (vs : List V) (Q : VK) (E : XK), Room k (A.deeper (envOfC qual scope s.heap.objs.size f cdv)) → sp s.toks vs H Q E →
      ∃ t, PSs (cxOf CX P w K mg base N qual scope f cdv A outer s H E) body t ∧ t { nx := fun _ H' => Q .non H', rt := Q } (start N vs) H) :
    FnOkT P w K mg base CX (k + 1) f (PySem.W.fnOf name qual params body scope dV kV doc pm an cdv ct) ps sp := by
  refine ⟨len, fun A outer s H args us vs Q E hr e0 hb r hsp => ?_⟩
  have hl := len _ _ _ _ _ hsp
  have KX : K.In s.heap := e0.mod.kin.keeps fun b o e => (e0.bs b o e).1
  have lim : s.heap.NoLimit := e0.mod.nolimit.keeps fun b o e => (e0.bs b o e).1
  have hkind : ∀ y ∈ ps.zip us, scope.names.lookup y.1 = some .local ∨ (scope.names.lookup y.1 = some .cell ∧ ((cellsFrom (s.heap.objs.size + 1) scope.names []).lookup y.1).isSome = true) := fun ⟨n, v⟩ hy => by
    rcases S.par n (List.of_mem_zip hy).1 with q | q
    · exact .inl q
    · exact .inr ⟨q, PySem.W.cellsFrom_some _ _ _ (.inl q)⟩
  refine codeAny_call_function hr.depth (KX _ _ lk) rfl S.co S.gen rfl (PySem.W.codeRec_of KX hcd) (hb _ _ _ _ ?_)
  refine wt (n := s.toks) (Nat.le_refl _) (wpAny_newFunctionEnv_cells S.kind hkind fun env he s1 x hlo => ?_)
  subst he
  refine ⟨lim.keeps x.toInCall.keep, codeAny_func ?_⟩
  obtain ⟨t, ht, hq⟩ := hbody A outer s H vs Q E (hr.deeper _) hsp
  have I : Inv (cxOf CX P w K mg base N qual scope f cdv A outer s H E) [] (start N vs) H s1 := (inv_start S hr.hd e0 hl r x).up hlo
  refine wpAny_mono (ht [] s1 (start N vs) H _ I hq) (fun fl s' hs => ?_) fun e s' hs => hs
  have fin : ∀ {σ' : St} {H' : Hp} {v : V} {u : Value}, InvW (cxOf CX P w K mg base N qual scope f cdv A outer s H E) [] σ' H' s' → RelV v u → Q v H' → CE outer P w H s Q u s' :=
    fun {σ' H' v u} J rv q => ⟨v, H', J.os, J.bare, J.base, J.hok, rv, q⟩
  cases fl with
  | ret u =>
    obtain ⟨v, σ', H', J, rv, q⟩ := hs
    exact fin J rv q
  | next =>
    obtain ⟨σ', H', J, q⟩ := hs
    exact fin (v := V.non) (u := Value.none) J rfl q
  | brk =>
    obtain ⟨_, _, _, q⟩ := hs
    exact False.elim q
  | cont =>
    obtain ⟨_, _, _, q⟩ := hs
    exact False.elim q
structure FncT (P : Program) (w : World) (K : PySem.W.Frag) (mg : Str → Option Value) (base : Heap) (x : Str) (ps : List Str) (k : Nat) (sp : SpT) : Prop where
  ex : ∃ (f : Addr) (fd : FuncData), mg x = some (.ref f) ∧ PySem.W.keepIn K (.ref f) = true ∧ Binds K fd ps [] ∧ FnOkT P w K mg base (CXe P w) k f fd ps sp
theorem Df.okT {P : Program} {w : World} {K : PySem.W.Frag} {mg : Str → Option Value} {base : Heap} {x : Str} {st : Stmt} {N ps : List Str} {k : Nat} {sp : SpT} (D : Df K mg x st) (S : FnScope N ps (defScope st))
    (hb : ∀ (kV doc pm : Value) (an : Option Addr) (cdv ct : Value) (us : List Value), us.length = ps.length → bindArgs (PySem.W.fnOf x x (defArgs st) (defBody st) (defScope st) .none kV doc pm an cdv ct) ⟨us, []⟩ = pure (ps.zip us))
    (len : ∀ n vs H Q E, sp n vs H Q E → vs.length = ps.length)
    (hbody : ∀ (f : Addr) (cdv : Value) (A : Around) (outer : List Env) (s : Shared) (H : Hp) (vs : List V) (Q : VK) (E : XK), Room k (A.deeper (envOfC x (defScope st) s.heap.objs.size f cdv)) → sp s.toks vs H Q E →
      ∃ t, PSs (cxOf (CXe P w) P w K mg base N x (defScope st) f cdv A outer s H E) (defBody st) t ∧ t { nx := fun _ H' => Q .non H', rt := Q } (start N vs) H) : FncT P w K mg base x ps (k + 1) sp := by
  obtain ⟨f, fd, hm, F⟩ := D.ex
  refine ⟨f, fd, hm, F.kp, F.binds hb, ?_⟩
  obtain ⟨oc, od, kV, doc, pm, an, cdv, ct, osl, rfl, lk, hcd⟩ := F.ex
  exact fn_ofT lk hcd S len fun A outer s H vs Q E hr hsp => hbody f cdv A outer s H vs Q E hr hsp
noncomputable def tCallT (lo : Nat) (sp : SpT) (E : XK) (t : TA) : TE := fun σ H Q => t σ H fun vs H1 => ∀ n, lo ≤ n → sp n (vs ++ []) H1 Q E
section
variable {X : Cx} {E : XK} {x : Str} {ps : List Str} {k j : Nat} {sp : SpT} {e : Expr} {es : List Expr} {t : TA} {p pos : Pos} {f : Addr} {fd : FuncData} {CX : CXT} {dvs : List V} {ds : List Value}
theorem run_fnT {pins : List (Addr × Obj)} {σ : St} {H : Hp} {s : Shared} {Q : VK} {us : List Value} {vs : List V} (F : FnOkT X.prog X.w X.K X.mg X.base CX k f fd ps sp) (hr : Room k X.A) (hb : Binds X.K fd ps ds) (hd : Vals dvs ds) (hx : Passes CX X E)
    (I : Inv X pins σ H s) (r : Vals vs us) (h : sp s.toks (vs ++ dvs) H Q E) : wpAny (model X.prog X.w) X.A (call (.ref f) us) (EP X pins σ Q) X.xe s := by
  have r2 : Vals (vs ++ dvs) (us ++ ds) := r.append hd
  have hl : (us ++ ds).length = ps.length := by rw [← r2.length]; exact F.len _ _ _ _ _ h
  refine wpAny_call (codeAny_mono (F.run X.A X.stack s H ⟨us, []⟩ (us ++ ds) (vs ++ dvs) Q E hr I.env0 (hb s us I.kIn hl) r2 h) fun r s' hq => ?_)
  cases r with
  | error e => exact hx pins σ H s e s' I hq
  | ok fl =>
    cases fl with
    | ret u => exact I.after hq
    | next => exact False.elim hq
    | brk => exact False.elim hq
    | cont => exact False.elim hq

theorem pe_fnT (F : FncT X.prog X.w X.K X.mg X.base x ps j sp) (hr : Room k X.A) (hj : j ≤ k) (hx : Passes (CXe X.prog X.w) X E) (hg : Gl X x) (ha : PA X (e :: es) t)
    (hdb : (x == ("__debug__" : Str)) = false := by decide) (he : starEach (e :: es) X.env = (false, eval e X.env) :: starEach es X.env := by rfl) (hpl : (backTo pos (starEach es X.env)).any (·.1) = false := by rfl) :
    PE X (.Call (.Name x p) (e :: es) [] pos) (tCallT X.lo sp E t) := by
  obtain ⟨f, fd, hm, hk, hb, F⟩ := F.ex
  intro pins s σ H Q I h
  refine wpAny_Call_Name_kw (ld_glob I hg hm ?_ hdb)
  refine PySem.W.callWith_K (h₀ := X.base) I.ok.mod.kin hk (thn (ha pos pins s σ H _ I h) fun us s1 ⟨vs, H1, I1, r, q⟩ => ⟨I1.kIn, ?_⟩) he hpl
  exact run_fnT (F.mono hj) hr hb .nil hx I1 r (q _ I1.low)
noncomputable def tCallLit (lo : Nat) (z : Str) (sp : SpT) (E : XK) (ta ti : TE) : TE := fun σ H Q => ta σ H fun x H1 => ti σ H1 fun y H2 => ∃ (j : Int) (c : Nat), y = .int j ∧ atI z.cps.toList j = some c ∧ ∀ t n, lo ≤ t → t < n → sp n ([x, .tks ⟨#[c]⟩ t] ++ []) H2 Q E
theorem pe_fnLit {a i : Expr} {ta ti : TE} {z : Str} {kk : Nat} {p1 p2 : Pos} (F : FncT X.prog X.w X.K X.mg X.base x ps j sp) (hr : Room k X.A) (hj : j ≤ k) (hx : Passes (CXe X.prog X.w) X E) (hg : Gl X x) (ha : PE X a ta) (hi : PE X i ti) (hz : z.length ≤ 1000) (hs : PlainIx i)
    (hdb : (x == ("__debug__" : Str)) = false := by decide) (he : starEach [a, .Subscript (.Constant (.str z) kk p1) i p2] X.env = (false, eval a X.env) :: starEach [.Subscript (.Constant (.str z) kk p1) i p2] X.env := by rfl) (hpl : (backTo pos (starEach [.Subscript (.Constant (.str z) kk p1) i p2] X.env)).any (·.1) = false := by rfl)
    (hst : backTo pos (starEach [a, .Subscript (.Constant (.str z) kk p1) i p2] X.env) = [(false, eval a X.env), (false, eval (.Subscript (.Constant (.str z) kk p1) i p2) X.env)] := by rfl) :
    PE X (.Call (.Name x p) [a, .Subscript (.Constant (.str z) kk p1) i p2] [] pos) (tCallLit X.lo z sp E ta ti) := by
  obtain ⟨f, fd, hm, hk, hb, F⟩ := F.ex
  intro pins s σ H Q I h
  refine wpAny_Call_Name_kw (ld_glob I hg hm ?_ hdb)
  refine PySem.W.callWith_K (h₀ := X.base) I.ok.mod.kin hk ?_ he hpl
  rw [hst]
  refine Calls.spliced_cons (thn (ha pins s σ H _ I h) fun u s1 ⟨xv, H1, I1, r1, h1⟩ => ?_)
  refine Calls.spliced_cons (Subscript_ (Calls.Constant_str ?_))
  have I1' : Inv X pins σ H1 { s1 with toks := s1.toks + 1 } := (I1.tok _).up (Nat.le_succ_of_le I1.low)
  refine thn (hi pins _ σ H1 _ I1' h1) fun v s2 ⟨y, H2, I2, r2, j', c, ey, hc, q⟩ => ?_
  subst ey
  obtain ⟨tj, rfl⟩ := r2
  have hn63 := line63
  obtain ⟨jj, a1, a2, a3, a4, a5⟩ := atI_get hc
  have hlS : z.cps.toList.length = z.length := by simp [Str.length]
  rw [hlS] at a1 a4 a5
  refine tail_any (typeIs_str _ z _) slot_str_getitem.lookup (getItem_str (c := c) (by
    have e1 : decide (j' < -(2 ^ 63 : Int)) = false := decide_eq_false (by omega)
    have e2 : decide (j' ≥ 2 ^ 63) = false := decide_eq_false (by omega)
    rw [e1, e2, Bool.or_false]) (by rw [a1]; simpa using a2) ?_) (hs _ _)
  refine Calls.spliced_nil ?_
  have I3 : Inv X pins σ H2 { s2 with toks := s2.toks + 1 } := (I2.tok _).up (Nat.le_succ_of_le I2.low)
  refine ⟨I3.kIn, ?_⟩
  exact run_fnT (vs := [xv, .tks ⟨#[c]⟩ s2.toks]) (F.mono hj) hr hb .nil hx I3 (.cons r1 (.cons rfl .nil)) (q _ _ I2.low (Nat.lt_succ_self _))
end
noncomputable def tStrike (lo : Nat) (to_ ta : TE) : TE := fun σ H Q => to_ σ H fun v H1 => ∃ S : Str, v = .str S ∧ S.length ≤ 1000 ∧ ta σ H1 fun y H2 => ∃ (c t : Nat), y = .tks ⟨#[c]⟩ t ∧ 0 < t ∧ t < lo ∧ Q (.str (Txt.replace S ⟨#[c]⟩ "")) H2
theorem pe_strike {X : Cx} {o a : Expr} {to_ ta : TE} {k1 : Nat} {pa p1 pos : Pos} (ho : PE X o to_) (ha : PE X a ta)
    (hbase : attributeBase o "replace" X.env (eval o X.env) = eval o X.env := by rfl)
    (hfew : ((backTo pos (starEach [a, .Constant (.str "") k1 p1] X.env)).all (fun x => !x.1) && (backToKw pos (keywordEach [] X.env)).all (fun x => x.1.isSome)
      && decide (([a, .Constant (.str "") k1 p1] : List Expr).length + ([] : List Keyword).length + (if ([] : List Keyword).isEmpty then 0 else 1) < 30)) = true := by rfl)
    (hline : (pa.endLine == pos.line) = true := by rfl)
    (hst : backTo pos (starEach [a, .Constant (.str "") k1 p1] X.env) = [(false, eval a X.env), (false, eval (.Constant (.str "") k1 p1) X.env)] := by rfl) :
    PE X (.Call (.Attribute o "replace" pa) [a, .Constant (.str "") k1 p1] [] pos) (tStrike X.lo to_ ta) := by
  intro pins s σ H Q I h
  have l16 : sizeLine = 16777216 := sizeLine_eq
  refine wpAny_Call_method_late hbase hfew hline rfl (thn (ho pins s σ H _ I h) fun uz s1 ⟨v, H1, I1, r1, S, ev, hS, h1⟩ => ?_)
  subst ev
  obtain ⟨tz, rfl⟩ := r1
  refine ⟨"str", "str.replace", PySem.F.plainAttrs_str, PySem.F.slot_str_replace, PySem.F.type_str_replace, typeIs_str _ _ _, (fun _ e => nomatch e), ?_⟩
  rw [hst]
  refine Calls.callWith_builtin rfl (Calls.evalArgs_plain ?_)
  refine Calls.spliced_cons (thn (ha pins s1 σ H1 _ I1 h1) fun u s2 ⟨y, H2, I2, r2, c, t, ey, h0, hl, q⟩ => ?_)
  subst ey
  obtain rfl : u = Value.str ⟨#[c]⟩ t := r2
  refine Calls.spliced_cons (Calls.Constant_str (Calls.spliced_nil ?_))
  have low := I2.low
  have hyz : ((⟨#[c]⟩ : Str) == ("" : Str)) = false := by
    cases e : ((⟨#[c]⟩ : Str) == ("" : Str)) with
    | false => rfl
    | true =>
      have e := eq_of_beq e
      have : (⟨#[c]⟩ : Str).length = ("" : Str).length := by rw [e]
      have h0 : ("" : Str).length = 0 := by decide +kernel
      rw [h0] at this
      exact absurd this (by show ¬ 1 = 0; decide)
  have e0 : ("" : Str).length = 0 := by decide +kernel
  exact SC.replace (Nat.pos_iff_ne_zero.mp h0) (by show s2.toks ≠ 0; omega) (by show t ≠ s2.toks; omega) hyz (by rw [e0]; omega) fun t' k => ⟨.str _, H2, I2.tok k, ⟨_, rfl⟩, q⟩
inductive rJoin1 (K : PySem.W.Frag) (x : V) (vs : List V) (H : Hp) (Q : VK) : Prop
  | mk : ∀ (z : Str) (p : Addr) (y : Str) (t : Tok), (x = .str z) → (vs = [.ref p]) → (SqL K H p [.tks y t]) → (y.length + z.length ≤ 1000) → (Q (.tks y t) H) → rJoin1 K x vs H Q
theorem mt_join1 {X : Cx} : MtR X "str.join" (rJoin1 X.K) := by
  intro pins s σ H x vs v us Q I rx rv h
  obtain ⟨z, p, y, t, rfl, rfl, hq, hz, q⟩ := h
  obtain ⟨tz, rfl⟩ := rx
  obtain ⟨u, rfl, ru⟩ := rv.one
  cases ru
  obtain ⟨its, r, pl, _⟩ := I.list hq
  obtain ⟨u, rfl, r1⟩ := r.one
  obtain rfl : u = Value.str y t := r1
  have hok : JoinOk z ([(y, t)].map (·.1)) = true := joinOk_of (by simp; omega)
  unfold JoinOk at hok
  rw [Bool.not_eq_true'] at hok
  exact call_meets F.slot_str_join (typeIs_str _ _ _) F.entry_str_join (F.args_str_join_2 _ _) (meets_str_join_list z tz p [(y, t)] hok) ⟨pl.isList, ⟨.tks y t, H, I, rfl, q⟩⟩
noncomputable def tKGetT_k1 (K : PySem.W.Frag) (a : Addr) (Q : VK) : V → Hp → Prop := fun y H1 => ∃ z z' t, y = .str z ∧ PySem.W.nsIn K a z = some (some (.str z' t)) ∧ Q (.tks z' t) H1
noncomputable def tKGetT (K : PySem.W.Frag) (a : Addr) (ti : TE) : TE := fun σ H Q => ti σ H (tKGetT_k1 K a Q)
theorem ix_kdictT {X : Cx} {a : Addr} (D : DTx X.K X.w a) : IxR X (fun x y H Q => ∃ z z' t, x = .ref a ∧ y = .str z ∧ PySem.W.nsIn X.K a z = some (some (.str z' t)) ∧ Q (.tks z' t) H) := by
  intro value slice pins s σ H x y v u Q I rx ry h hs
  obtain ⟨z, z', t', rfl, rfl, e, q⟩ := h
  cases rx
  obtain ⟨t, rfl⟩ := ry
  obtain ⟨es, n, hl, hk⟩ := D.ob
  obtain ⟨m, F⟩ := I.fr
  exact PySem.W.topItem_K F I.ok.mod.kin hl hk e ⟨.tks z' t', H, I.tok _, rfl, q⟩ hs
theorem pe_kgetT {X : Cx} {K : PySem.W.Frag} {w : World} {a : Addr} {x : Str} {i : Expr} {ti : TE} {p pos : Pos} (D : DTx K w a) (hK : X.K = K) (hw : X.w = w) (hg : Gl X x) (hm : X.mg x = some (.ref a)) (hi : PE X i ti) (hs : PlainIx i)
    (hd : (x == ("__debug__" : Str)) = false := by decide) : PE X (.Subscript (.Name x p) i pos) (tKGetT K a ti) := by
  subst hK hw
  intro pins s σ H Q I h
  refine Subscript_ (ld_glob I hg hm (thn (hi pins s σ H _ I h) fun u s2 zq2 => ?_) hd)
  obtain ⟨y, H2, I2, ry, z, z', t', e1, e2, q⟩ := zq2
  exact ix_kdictT D _ _ pins s2 σ H2 (.ref a) y (.ref a) u Q I2 rfl ry ⟨z, z', t', rfl, e1, e2, q⟩ (hs _ _)
end L2
set_option Elab.async false
set_option linter.all false
set_option maxRecDepth 100000
set_option maxHeartbeats 0
namespace L2
open PySem PySem.Spec PyProof.Rows
theorem law_callT {P : Program} {w : World} {K : PySem.W.Frag} {mg mb : Str → Option Value} {CX : CXT} {k : Nat} {fa a : Addr} {fd : FuncData} {x : Str} {sp : SpT} {s₁ : Shared} {vs : List Value} {ns : List Int}
    (KX : K.In s₁.heap) (hns : s₁.heap.Ns mainGlobals mg) (hb : s₁.heap.Ns builtinsNs mb) (hbb : ∀ x : Str, x ≠ "__name__" → mb x = bootBuiltins x) (hlim : s₁.heap.NoLimit) (hg : s₁.gens = #[])
    (ha : s₁.heap.get? a = some { cls := .type "list", data := .seq vs.toArray }) (hi : IntsAre vs ns) (hl : ns.length ≤ sizeLine) (hr : Room k callerA)
    (F : ∀ base : Heap, K.In base → base.Ns mainGlobals mg → FnOkT P w K mg base CX k fa fd [x] sp) (hbind : ∀ (s : Shared) (u : Value), BindsTo s fd ⟨[u], []⟩ [(x, u)])
    (hsp : ∀ H : Hp, Only H → SqL K H a (ns.map V.int) → sp s₁.toks [.ref a] H (fun v _ => v = .bl true) fun _ _ _ => False)
    (hCX : ∀ H e s', CX [] H s₁ (fun _ _ _ => False) e s' → False) :
    codeAny (model P w) callerA (.call (.ref fa) ⟨[.ref a], []⟩) (fun r s' => r = .ok (.ret (.bool true)) ∧ OldK s₁.heap s'.heap ∧ s'.os = s₁.os ∧ AllBare s'.gens) s₁ := by
  have rv := vals_ints hi
  have lenV := hi.length
  -- from an abstract heap in which nothing but the script may be tracked
  have core : ∀ H : Hp, Only H → SqL K H a (ns.map V.int) → HOk P w H s₁.heap → (∀ b, H b ≠ none → b = a) → (H a ≠ none → K.lookup a = none) →
      codeAny (model P w) callerA (.call (.ref fa) ⟨[.ref a], []⟩) (fun r s' => r = .ok (.ret (.bool true)) ∧ OldK s₁.heap s'.heap ∧ s'.os = s₁.os ∧ AllBare s'.gens) s₁ := by
    intro H hO hS hok hA hK
    have base_of : ∀ {b : Addr} {o : Obj}, s₁.heap.get? b = some o → H b = none → (hidT s₁.heap H).get? b = some o := fun e n => hidT_get e n
    have noA : ∀ {b : Addr} {o : Obj} {es : Array DictEntry} {ep : Nat}, s₁.heap.get? b = some o → o.data = .dict es ep → H b = none := fun {b o es ep} e d => by
      cases q : H b with
      | none => rfl
      | some u =>
        have e' : b = a := hA b (by rw [q]; simp)
        subst e'
        rw [ha] at e; cases e
        have d' : Data.seq vs.toArray _ = Data.dict es ep := d
        cases d'
    have nsK : ∀ {b : Addr} {m : Str → Option Value}, s₁.heap.Ns b m → (hidT s₁.heap H).Ns b m := fun {b m} ⟨o, es, ep, e, d, r⟩ => ⟨o, es, ep, base_of e (noA e d), d, r⟩
    have hKb : K.In (hidT s₁.heap H) := fun b o e => base_of (KX b o e) (by
      cases q : H b with
      | none => rfl
      | some u =>
        have e' : b = a := hA b (by rw [q]; simp)
        subst e'
        rw [hK (by rw [q]; simp)] at e; cases e)
    have hM : Mod K mg (hidT s₁.heap H) := ⟨hKb, nsK hns, ⟨mb, nsK hb, hbb⟩, let ⟨mc, h1, h2⟩ := hlim; ⟨mc, nsK h1, h2⟩⟩
    have e0 : Env0 P w K mg (hidT s₁.heap H) callerA [] s₁ H := ⟨rfl, hM, fun b o e => of_hidT e, Nat.le_of_eq (hidT_size _ _), trivial, fun b hb => absurd (show b ∈ ([] : List Addr) from hb) (by simp), hok, .of_eq hg⟩
    refine codeAny_mono ((F _ hKb (nsK hns)).run callerA [] s₁ H ⟨[.ref a], []⟩ [.ref a] [.ref a] _ _ hr e0 (hbind s₁ (.ref a)) (.cons rfl .nil) (hsp H hO hS)) fun r s' h => ?_
    cases r with
    | error e => exact (hCX H e s' h).elim
    | ok fl =>
      cases fl with
      | next => exact False.elim h
      | brk => exact False.elim h
      | cont => exact False.elim h
      | ret u =>
        obtain ⟨v, H', os, bare, un, hok', r', q⟩ := h
        have q' : v = .bl true := q
        subst q'
        obtain rfl : u = Value.bool true := r'
        refine ⟨rfl, OldK.of_keep fun b o e => ?_, os, bare⟩
        cases q : H b with
        | none => exact un.keep b o e q (by intro z; exact absurd (show b ∈ ([] : List Addr) from z) (by simp)) (by simp)
        | some u =>
          rcases hO b with z | ⟨ob, xs, z⟩
          · rw [q] at z; cases z
          · have z2 := un.frzs b ob _ z
            obtain ⟨e1, _⟩ := hok b _ z
            obtain ⟨e2, _⟩ := hok' b _ z2
            rw [e] at e1; cases e1
            exact e2
  cases hk : K.lookup a with
  | some o =>
    -- the script is one of the module's own objects
    have e := KX a o hk
    rw [ha] at e
    cases e
    refine core (fun _ => none) (fun _ => .inl rfl) (.inr ⟨_, vs.toArray, _, hk, rfl, rfl, rfl, by rw [List.size_toArray, lenV]; exact hl, by simpa using rv, by rw [List.all_eq_true]; intro x hx; obtain ⟨i, _, rfl⟩ := List.mem_map.mp hx; rfl⟩) (fun b u z => by have z' : (none : Option HO) = some u := z; cases z') (fun b z => absurd rfl z) fun z => absurd rfl z
  | none =>
    refine core (fun b => if b = a then some (.frz { cls := .type "list", data := .seq vs.toArray } (.lst (ns.map V.int))) else none) (fun b => ?_) (.inl (.inr ⟨{ cls := .type "list", data := .seq vs.toArray }, if_pos rfl⟩)) (fun b u z => ?_) (fun b z => ?_) fun _ => hk
    · by_cases hb : b = a
      · exact .inr ⟨_, _, if_pos hb⟩
      · exact .inl (if_neg hb)
    · by_cases hb : b = a
      · have z' := (if_pos hb).symm.trans z
        cases z'
        subst hb
        exact ⟨ha, by rw [List.length_map]; exact hl, vs, _, rv, ha⟩
      · have z' := (if_neg hb).symm.trans z
        cases z'
    · by_cases hb : b = a
      · exact hb
      · exact absurd (if_neg hb) z
theorem ofPys_ints : ∀ ns : List Int, PySem.W.ofPys (ns.map PyData.int) = ns.map PySem.W.WData.int
  | [] => rfl
  | n :: ns => by
    show PySem.W.ofPy (PyData.int n) :: PySem.W.ofPys (ns.map PyData.int) = _
    rw [ofPys_ints ns]; rfl
theorem walk_ofX {l : PySem.W.OpenLaw} {n k : Nat} {q : Program} {loose : List Str} {XP : (Str → Option Value) → Heap → Prop} {d : DefRec} {K : Params → PySem.W.Frag} {as : List Addr} {n0 t0 : Nat} {CX : World → CXT} {sp : World → SpT} {x : Str}
    (he : ∀ P, as = (K P).map (·.1)) (hn : l.most = some n) (hn2 : n ≤ sizeLine) (hdf : d.params.defaults = []) (hr : Room k callerA)
    (F : ∀ (w : World) (mg : Str → Option Value) (fa : Addr) (h : Heap), (K w.params).In h → h.Ns mainGlobals mg → mg d.name = some (.ref fa) →
      ∃ fd : FuncData, (∀ (s : Shared) (u : Value), BindsTo s fd ⟨[u], []⟩ [(x, u)]) ∧
        ∀ base : Heap, (K w.params).In base → base.Ns mainGlobals mg → FnOkT l.prog w (K w.params) mg base (CX w) k fa fd [x] (sp w))
    (hsp : ∀ (w : World) (m : Nat) (H : Hp) (a : Addr) (ns : List Int), t0 ≤ m → ns.length ≤ n → Only H → SqL (K w.params) H a (ns.map V.int) → sp w m [.ref a] H (fun v _ => v = .bl true) fun _ _ _ => False)
    (hCX : ∀ (w : World) (H : Hp) (s : Shared) (e : Value) (s' : Shared), CX w [] H s (fun _ _ _ => False) e s' → False) :
    PySem.W.WalkX q loose XP (PySem.W.X.obsZ as) (PySem.W.X.valZ K n0 t0) l.row.toRowW d [] (fun f vs => PySem.call f vs) := by
  intro w s₀ s₁ mg mb G y fa o pm cd doc dV kV ho hd hcd hD hmg hg args vals as' Ld hpre hlay hrd hwl hlo
  obtain rfl : dV = .none := PySem.W.Dflts.none hD hdf
  obtain rfl : kV = .none := PySem.W.Dflts.noKw hD
  obtain ⟨a, vs, ns, rfl, rfl, hobj, hints, hlen⟩ := Att.script_of hn hpre hwl
  obtain ⟨_, ZI, _, ZT⟩ := PySem.W.X.z_facts he y
  have KX : (K w.params).In s₁.heap := PySem.W.InK.keeps w _ _ ZI Ld.keeps
  have Ld' := Ld
  rw [← ofPys_ints] at Ld'
  have htk : t0 ≤ s₁.toks := PySem.W.X.script_toks (ns := ns) Ld' ZT
  obtain ⟨fd, hb, hF⟩ := F w mg fa _ KX G.T.g hmg
  refine PySem.W.enter_call (codeAny_mono (law_callT KX G.T.g G.T.b G.T.builtins G.T.nolimit hg hobj hints (Nat.le_trans hlen hn2) hr hF hb (fun H hO hS => hsp w _ H a ns htk hlen hO hS) fun H e s' => hCX w H s₁ e s') fun r s' hq => ?_)
  obtain ⟨rfl, h2, h3, h4⟩ := hq
  exact ⟨.inl ⟨.bool true, .bool true, [], rfl, fun _ => rfl, .bool true, Att.post_true l _, fun _ => ⟨List.Pairwise.nil, fun _ hm => (nomatch hm)⟩⟩, h2, h3, h4⟩
end L2
set_option Elab.async false
set_option linter.all false
set_option maxRecDepth 100000
namespace PySem
end PySem
namespace L2
open PySem PySem.Spec PyProof.Rows Wd
section
variable {X : Cx}
end
end L2
set_option Elab.async false
set_option linter.all false
set_option maxRecDepth 100000
namespace L2
open PySem PySem.Spec PyProof.Rows Wd
end L2
set_option Elab.async false
set_option linter.all false
set_option maxRecDepth 100000
namespace L2
open PySem PySem.Spec PyProof.Rows Wd
section
variable {X : Cx}
end
end L2
set_option linter.all false
namespace Wd
noncomputable def img (ws : List (List L)) (x : L) : List L := if x.val < 6 then ws.getD x.val [] else bk (ws.getD (x.val - 6) [])
noncomputable def sub (ws : List (List L)) (u : List L) : List L := u.flatMap (img ws)
noncomputable def InM (n : Nat) (u : List L) : Prop := ∀ x ∈ u, x.val % 6 < n
end Wd
set_option Elab.async false
set_option linter.all false
set_option maxRecDepth 100000
namespace PySem
section
variable {prog : Program} {w : World} {A : Around} {E : Value → Shared → Prop}
end
end PySem
namespace L2
open PySem PySem.Spec PyProof.Rows Wd
section
variable {X : Cx} {pos : Pos}
end
end L2
set_option Elab.async false
set_option linter.all false
set_option maxRecDepth 100000
set_option maxHeartbeats 0
namespace L2
open PySem PySem.Spec PyProof.Rows Wd
section
variable {X : Cx}
theorem ix_listK {K : PySem.W.Frag} (hK : X.K = K) : IxR X (rIxL K) := by subst hK; exact ix_list
inductive rIslower (x : V) (vs : List V) (H : Hp) (Q : VK) : Prop
  | mk : ∀ z, (x = .str z) → (vs = []) → (Q (.bl (Txt.islower z)) H) → rIslower x vs H Q
theorem mt_islower : MtR X "str.islower" rIslower := by
  intro pins s σ H x vs v us Q I rx rv h
  obtain ⟨z, rfl, rfl, q⟩ := h
  obtain ⟨t, rfl⟩ := rx
  cases rv
  exact SC.islower ⟨.bl _, H, I, rfl, q⟩
end
end L2
namespace L2
open PySem PySem.Spec PyProof.Rows Wd
end L2
namespace Kx
open PySem PySem.Spec PyProof.Rows L2 Wd
end Kx
set_option Elab.async false
set_option linter.all false
set_option maxRecDepth 100000
set_option maxHeartbeats 0
namespace Wd
structure RowN (n : Nat) (u : List L) : Prop where
  len : u.length = 2 * n
  nd : u.Nodup
  ins : InM n u
theorem sg_all {n : Nat} (h6 : n ≤ 6) {x : L} (hx : x.val % 6 < n) : x ∈ ([0, 1, 2, 3, 4, 5] : List L).take n ++ ([6, 7, 8, 9, 10, 11] : List L).take n := by
  have q : ∀ (n : Fin 7) (x : L), x.val % 6 < n.val → x ∈ ([0, 1, 2, 3, 4, 5] : List L).take n.val ++ ([6, 7, 8, 9, 10, 11] : List L).take n.val := by decide
  exact q ⟨n, by omega⟩ x hx
theorem row_perm {n : Nat} {u : List L} (h1 : 1 ≤ n) (h6 : n ≤ 6) (p : u.Perm (([0, 1, 2, 3, 4, 5] : List L).take n ++ ([6, 7, 8, 9, 10, 11] : List L).take n)) : RowN n u := by
  have q : ∀ n : Fin 7, (([0, 1, 2, 3, 4, 5] : List L).take n.val ++ ([6, 7, 8, 9, 10, 11] : List L).take n.val).length = 2 * n.val ∧ (([0, 1, 2, 3, 4, 5] : List L).take n.val ++ ([6, 7, 8, 9, 10, 11] : List L).take n.val).Nodup ∧ ∀ x ∈ ([0, 1, 2, 3, 4, 5] : List L).take n.val ++ ([6, 7, 8, 9, 10, 11] : List L).take n.val, x.val % 6 < n.val := by decide
  obtain ⟨a, b, c⟩ := q ⟨n, by omega⟩
  exact ⟨by rw [p.length_eq, a], p.nodup_iff.mpr b, fun x hx => c x (p.mem_iff.mp hx)⟩
end Wd
set_option Elab.async false
set_option linter.all false
set_option maxRecDepth 100000
set_option maxHeartbeats 0
namespace L2
open PySem PySem.Spec PyProof.Rows Wd
section
variable {X : Cx}
end
end L2
namespace Kx
open PySem PySem.Spec PyProof.Rows L2 Wd
end Kx
namespace L2
open PySem PySem.Spec PyProof.Rows Wd
section
variable {X : Cx}
end
end L2
set_option Elab.async false
set_option linter.all false
set_option maxRecDepth 100000
namespace L2
open PySem PySem.Spec PyProof.Rows
section
variable {prog : Program} {w : World} {A : Around} {E : Value → Shared → Prop} {s : Shared}
end
section
variable {X : Cx}
end
end L2
set_option Elab.async false
set_option linter.all false
set_option maxRecDepth 100000
set_option maxHeartbeats 0
namespace L2
open PySem PySem.Spec PyProof.Rows Wd
section
variable {X : Cx}
inductive call_repr_V_r  (xs : List V) (H : Hp) (Q : VK) : Prop
  | mk : ∀ v d, (xs = [v]) → (Dt H v d) → (Sh d) → ((∀ i, d = .int i → i.natAbs.log2 < 1920)) → (Q (.str d.shown) H) → call_repr_V_r xs H Q
theorem call_repr_V (hg : X.A.guards = some []) (hu : X.A.units + 64 < cLine) : CallR X (.builtin "repr") call_repr_V_r := by
  intro pins s σ H xs us Q I r h
  obtain ⟨v, d, rfl, q, S, hi, hQ⟩ := h
  obtain ⟨u, rfl, ru⟩ := vals1 r
  cases q with
  | non => cases ru; exact P.repr_of_none ⟨.str _, H, I.tok _, ⟨_, rfl⟩, hQ⟩
  | bl b => cases ru; exact P.repr_of_bool ⟨.str _, H, I.tok _, ⟨_, rfl⟩, hQ⟩
  | int i => obtain ⟨t, rfl⟩ := ru; exact P.repr_of_int (hi i rfl) ⟨.str _, H, I.tok _, ⟨_, rfl⟩, hQ⟩
  | str x => obtain ⟨t, rfl⟩ := ru; exact P.repr_of_str ⟨.str _, H, I.tok _, ⟨_, rfl⟩, hQ⟩ S.sz
  | lst e qs => exact call_repr_dat hg hu pins s σ H _ _ Q I (.cons ru .nil) ⟨_, _, rfl, .lst e qs, S, hQ⟩
  | tup e qs => exact call_repr_dat hg hu pins s σ H _ _ Q I (.cons ru .nil) ⟨_, _, rfl, .tup e qs, S, hQ⟩
end
end L2
namespace L2
open PySem PySem.Spec PyProof.Rows Wd
theorem fits40 {d : PyData} (h : d.leavesShort 40 = true) (hw : d.weight ≤ 2 ^ 18) : d.shown.length ≤ sizeLine := by
  have := PyData.shown_le 40 (by decide) d h
  have e : sizeLine = 16777216 := sizeLine_eq
  rw [e]
  omega
structure Sm (d : PyData) : Prop where
  sh : d.showable = true
  nd : d.hasDict = false
  dp : d.depth ≤ 4
  lv : d.leavesShort 40 = true
  wt : d.weight ≤ 400
  nt : ∀ i, d = .int i → i.natAbs.log2 < 1920
theorem sm_word {u : List L} (h : u.length ≤ 400) : Sm (.str (toS u)) := by
  obtain ⟨h1, h2, h3, h4⟩ := Kx.dws_show [u]
  refine ⟨rfl, rfl, Nat.zero_le _, ?_, ?_, fun i e => by cases e⟩
  · have h4 : (PyData.leavesShort 13 (.str (toS u)) && true) = true := h4
    rwa [Bool.and_true] at h4
  · show (toS u).cps.size ≤ 400
    rw [toS_size]
    exact h
theorem all_sm {ds : List PyData} (h : ∀ d ∈ ds, Sm d) : PyData.showableAll ds = true ∧ PyData.hasDictAll ds = false ∧ PyData.depthAll ds ≤ 4 ∧ PyData.leavesShortAll 40 ds = true ∧ PyData.weightAll ds ≤ ds.length * 401 := by
  induction ds with
  | nil => exact ⟨rfl, rfl, Nat.zero_le _, rfl, Nat.zero_le _⟩
  | cons d r ih =>
    obtain ⟨a, b, c, e, f⟩ := ih fun x hx => h x (List.mem_cons_of_mem _ hx)
    have S := h d List.mem_cons_self
    refine ⟨?_, ?_, ?_, ?_, ?_⟩
    · show (PyData.showable d && PyData.showableAll r) = true
      rw [S.sh, a]; rfl
    · show (PyData.hasDict d || PyData.hasDictAll r) = false
      rw [S.nd, b]; rfl
    · show max (PyData.depth d) (PyData.depthAll r) ≤ 4
      have := S.dp
      omega
    · show (PyData.leavesShort 40 d && PyData.leavesShortAll 40 r) = true
      rw [S.lv, e]; rfl
    · show PyData.weight d + 1 + PyData.weightAll r ≤ (r.length + 1) * 401
      have := S.wt
      omega
theorem sh_tupD {ds : List PyData} (h : ∀ d ∈ ds, Sm d) (hl : ds.length ≤ 100) : Sh (.tuple ds) := by
  obtain ⟨a, b, c, e, f⟩ := all_sm h
  have : ds.length * 401 ≤ 100 * 401 := Nat.mul_le_mul_right _ hl
  exact ⟨a, b, by show PyData.depthAll ds + 1 ≤ 10; omega, fits40 e (by show PyData.weightAll ds ≤ 2 ^ 18; omega)⟩
end L2
namespace Kx
open PySem PySem.Spec PyProof.Rows L2 Wd
end Kx
set_option Elab.async false
set_option linter.all false
set_option maxRecDepth 100000
set_option maxHeartbeats 0
namespace L2
open PySem PySem.Spec PyProof.Rows Wd
theorem strike_toS (u : List L) (e : L) : Txt.replace (toS u) ⟨#[cp e]⟩ "" = toS (u.filter (fun x => decide (x ≠ e))) := by
  have h := replace_strikes (toS u) (cp e)
  have e0 : ("" : Str) = ⟨#[]⟩ := by decide +kernel
  rw [e0]
  have h2 : (toS (u.filter (fun x => decide (x ≠ e)))).cps.toList = (toS u).cps.toList.filter (· != cp e) := by
    rw [toS_cps, toS_cps, List.filter_map]
    congr 1
    refine List.filter_congr fun x _ => ?_
    show decide (x ≠ e) = (cp x != cp e)
    by_cases z : x = e
    · subst z; simp
    · rw [decide_eq_true z]
      have : cp x ≠ cp e := fun q => z (cp_inj x e q)
      simp [this]
  have h3 : (Txt.replace (toS u) ⟨#[cp e]⟩ ⟨#[]⟩).cps = (toS (u.filter (fun x => decide (x ≠ e)))).cps := Array.toList_inj.mp (h.trans h2.symm)
  generalize Txt.replace (toS u) ⟨#[cp e]⟩ ⟨#[]⟩ = z at h3
  cases z
  cases hh : toS (u.filter (fun x => decide (x ≠ e)))
  rw [hh] at h3
  exact congrArg Str.mk h3
end L2
namespace Kx
open PySem PySem.Spec PyProof.Rows L2 Wd
theorem ifsT {t u : TS} {D : Ends} {σ : L2.St} {H : Hp} (h : t D σ H) : tIfS_k1 t u D σ true H := iteT h
theorem ifsF {t u : TS} {D : Ends} {σ : L2.St} {H : Hp} (h : u D σ H) : tIfS_k1 t u D σ false H := iteF h
theorem orkT {u : TT} {σ : L2.St} {Q : Bool → Hp → Prop} {H : Hp} (h : Q true H) : tOr_k1 u σ Q true H := iteT h
theorem orkF {u : TT} {σ : L2.St} {Q : Bool → Hp → Prop} {H : Hp} (h : u σ H Q) : tOr_k1 u σ Q false H := iteF h
theorem andkT {u : TT} {σ : L2.St} {Q : Bool → Hp → Prop} {H : Hp} (h : u σ H Q) : tAnd_k1 u σ Q true H := iteT h
theorem andkF {u : TT} {σ : L2.St} {Q : Bool → Hp → Prop} {H : Hp} (h : Q false H) : tAnd_k1 u σ Q false H := iteF h
theorem nkF {Q : Bool → Hp → Prop} {H : Hp} (h : Q true H) : tNot_k1 Q false H := h
theorem nkT {Q : Bool → Hp → Prop} {H : Hp} (h : Q false H) : tNot_k1 Q true H := h
noncomputable def lowL (x y : L) : L := if y.val % 6 < x.val % 6 then y else y - 1
inductive spBk1 (N : Nat) (vs : List V) (H : Hp) (Q : VK) (u3_ : XK) : Prop
  | mk : ∀ x : L, (vs = [tx [x]]) → (∀ t H', 0 < t → t < N → Same H H' → Q (.tks (toS [inv x]) t) H') → spBk1 N vs H Q u3_
inductive spLowL (vs : List V) (H : Hp) (Q : VK) (u3_ : XK) : Prop
  | mk : ∀ x y : L, (vs = [tx [x], tx [y]]) → (y.val % 6 ≠ x.val % 6) → (∀ H', Same H H' → Q (tx [lowL x y]) H') → spLowL vs H Q u3_
inductive spLowered (vs : List V) (H : Hp) (Q : VK) (u3_ : XK) : Prop
  | mk : ∀ (x : L) (u : List L), (vs = [tx [x], tx u]) → (u.length ≤ 500) → (∀ y ∈ u, y.val % 6 ≠ x.val % 6) → (∀ H', Same H H' → Q (tx (u.map (lowL x))) H') → spLowered vs H Q u3_
noncomputable def X1 (C : Addr) (f : Str) (v : V) (H : Hp) (a : Addr) : Prop := ∃ dx c, H a = some (Exo a C (some dx) false c) ∧ H dx = some (Xdt dx [(f, v)])
noncomputable def cutW (u : List L) (x : L) : List L := ((u.filter fun y => decide (y ≠ x)).filter fun y => decide (y ≠ inv x)).map (lowL x)
inductive spCutX (CB : Addr) (N n : Nat) (vs : List V) (H : Hp) (Q : VK) (E : XK) : Prop
  | mk : ∀ (u : List L) (z : Str) (y : V), (vs = [tx u, y]) → (y.w = .str z) → (N ≤ n) → (2 ≤ u.length) → (u.length ≤ 12) → (z.length ≤ 100) →
    (∀ x : L, u.length ≠ 2 → x.val < u.length / 2 → x.val < 6 → z = toS [x] → (∃ t, y = .tks z t ∧ 0 < t ∧ t < n) ∧ ∀ H', Same H H' → Q (tx (cutW u x)) H') →
    ((u.length = 2 ∨ ∀ x : L, x.val < u.length / 2 → x.val < 6 → z ≠ toS [x]) → ∀ b H', X1 CB "letter" (.str z) H' b → Same H H' → E (.ref b) none H') → spCutX CB N n vs H Q E
inductive spPutIn (vs : List V) (H : Hp) (Q : VK) (u3_ : XK) : Prop
  | mk : ∀ (u : List L) (p : Nat) (v : List L), (vs = [tx u, .int (p : Int), tx v]) → (p ≤ u.length) → (u.length ≤ 20) → (v.length ≤ 4) → (∀ H', Same H H' → Q (tx (u.take p ++ v ++ u.drop p)) H') → spPutIn vs H Q u3_
inductive Glu where
  | band | slide (k : Nat) | told (w : List L)
noncomputable def gluW (u : List L) (p q : Nat) (m : Nat) : List L :=
  let w := u.take p ++ [lt6 m] ++ u.drop p
  w.take q ++ [inv (lt6 m)] ++ w.drop q
noncomputable def glu (u : List L) (p q : Int) : Glu :=
  if u.length = 12 then .band else if 0 ≤ p ∧ p ≤ (u.length : Int) then (if 0 ≤ q ∧ q ≤ (u.length : Int) + 1 then .told (gluW u p.toNat q.toNat (u.length / 2)) else .slide 1) else .slide 0
theorem new_x1 {C : Addr} {H : Hp} {a dx : Addr} {f : Str} {v : V} {c c' : Bool} (ha : H a = none) (hd : H dx = none) (ne : dx ≠ a) :
    X1 C f v (upd (upd (upd H a (Exo a C (some dx) true c)) dx (Xdt dx (fillF [] ([f].zip [v])))) a (Exo a C (some dx) false c')) a := by
  refine ⟨dx, c', upd_same, ?_⟩
  rw [upd_ne ne, upd_same]
  rfl
theorem new_sameS {H : Hp} {a dx : Addr} {o o' o2 : HO} (ha : H a = none) (hd : H dx = none) : Same H (upd (upd (upd H a o) dx o') a o2) := fun b u e => by
  have ne : ∀ {x : Addr}, H x = none → b ≠ x := fun h z => by rw [z, h] at e; cases e
  rw [upd_ne (ne ha), upd_ne (ne hd), upd_ne (ne ha)]; exact e
inductive spGlued (CB CS : Addr) (vs : List V) (H : Hp) (Q : VK) (E : XK) : Prop
  | mk : ∀ (u : List L) (p q : Int), (vs = [tx u, .int p, .int q]) → (2 ≤ u.length) → (u.length ≤ 12) → (∀ w, glu u p q = .told w → ∀ H', Same H H' → Q (tx w) H') → (glu u p q = .band → ∀ b H', X1 CB "letter" (.str "") H' b → Same H H' → E (.ref b) none H') →
    (∀ k, glu u p q = .slide k → ∀ b H', X1 CS "place" (.int (k : Nat)) H' b → Same H H' → E (.ref b) none H') → spGlued CB CS vs H Q E
noncomputable def gluV : Glu → List V
  | .band => [.str "band", .str ""]
  | .slide k => [.str "slide", .int (k : Nat)]
  | .told w => [.str "told", tx w]
inductive spTold71 (vs : List V) (H : Hp) (Q : VK) (u3_ : XK) : Prop
  | mk : ∀ (u : List L) (p q : Int), (vs = [tx u, .int p, .int q]) → (2 ≤ u.length) → (u.length ≤ 12) → (∀ t H', H' t = some (.tup (gluV (glu u p q))) → Same H H' → Q (.ref t) H') → spTold71 vs H Q u3_
theorem row_perm71 {n : Nat} {u : List L} (R : RowN n u) (h6 : n ≤ 6) : u.Perm (ends n) := by
  have all : ∀ m : Fin 7, (ends m.val).length = 2 * m.val ∧ ∀ x : L, x.val % 6 < m.val → x ∈ ends m.val := by decide
  obtain ⟨e1, e2⟩ := all ⟨n, by omega⟩
  exact (nodup_perm u (ends n) R.nd (fun t ht => e2 t (R.ins t ht)) (by rw [R.len]; exact e1.symm)).symm
theorem glu_perm {u : List L} {p q m : Nat} : (gluW u p q m).Perm (lt6 m :: inv (lt6 m) :: u) := by
  unfold gluW
  have h : ∀ (w : List L) (i : Nat) (x : L), (w.take i ++ [x] ++ w.drop i).Perm (x :: w) := fun w i x => by
    have h1 : (w.take i ++ [x] ++ w.drop i).Perm ([x] ++ w.take i ++ w.drop i) := List.Perm.append_right _ List.perm_append_comm
    have h2 : [x] ++ w.take i ++ w.drop i = x :: w := by rw [List.append_assoc, List.take_append_drop]; rfl
    rw [h2] at h1
    exact h1
  exact (h _ q _).trans ((List.Perm.cons _ (h u p _)).trans (List.Perm.swap _ _ _))
theorem surf_glu {n : Nat} {u : List L} {p q : Nat} (R : RowN n u) (h1 : 1 ≤ n) (h5 : n ≤ 5) : surfV (tx (gluW u p q n)) = true := by
  have hl := R.len
  have hp := glu_perm (u := u) (p := p) (q := q) (m := n)
  have hv := hp.length_eq
  simp only [List.length_cons] at hv
  show surfB (toS (gluW u p q n)) = true
  unfold surfB
  rw [toS_length, toS_cps, decide_eq_true (show 2 ≤ (gluW u p q n).length by omega), decide_eq_true (show (gluW u p q n).length ≤ 12 by omega)]
  have : (gluW u p q n).length / 2 = n + 1 := by omega
  rw [this]
  have e : (lt6 n :: inv (lt6 n) :: ends n).Perm (ends (n + 1)) := by
    have all : ∀ m : Fin 6, (lt6 m.val :: inv (lt6 m.val) :: ends m.val).Perm (ends (m.val + 1)) := by decide
    exact all ⟨n, by omega⟩
  rw [decide_eq_true (((hp.trans (List.Perm.cons _ (List.Perm.cons _ (row_perm71 R (by omega))))).trans e).map cp)]
  rfl
theorem cut_glu {n : Nat} {u : List L} {p q : Nat} (R : RowN n u) (h5 : n ≤ 5) : cutW (gluW u p q n) (lt6 n) = u := by
  have hn : (lt6 n).val = n := lt6_val (by omega)
  have hi : (inv (lt6 n)).val % 6 = n := by
    have : ∀ m : Fin 6, (inv (lt6 m.val)).val % 6 = m.val := by decide
    exact this ⟨n, by omega⟩
  have hx : ∀ y ∈ u, y ≠ lt6 n ∧ y ≠ inv (lt6 n) := fun y hy => by
    have := R.ins y hy
    refine ⟨fun e => ?_, fun e => ?_⟩
    · rw [e, hn] at this; omega
    · rw [e, hi] at this; omega
  have f1 : ∀ w : List L, (∀ y ∈ w, y ∈ u) → w.filter (fun y => decide (y ≠ lt6 n)) = w := fun w h => List.filter_eq_self.mpr fun y hy => decide_eq_true (hx y (h y hy)).1
  have f2 : ∀ w : List L, (∀ y ∈ w, y ∈ u) → w.filter (fun y => decide (y ≠ inv (lt6 n))) = w := fun w h => List.filter_eq_self.mpr fun y hy => decide_eq_true (hx y (h y hy)).2
  have step : ∀ (w : List L) (i : Nat) (x : L), (w.take i ++ [x] ++ w.drop i).filter (fun y => decide (y ≠ x)) = w.filter (fun y => decide (y ≠ x)) := fun w i x => by
    rw [List.filter_append, List.filter_append, List.filter_cons, decide_eq_false (by simp), List.filter_nil]
    simp only [Bool.false_eq_true, if_false, List.append_nil]
    rw [← List.filter_append, List.take_append_drop]
  unfold cutW gluW
  have comm : ∀ w : List L, ((w.filter fun y => decide (y ≠ lt6 n)).filter fun y => decide (y ≠ inv (lt6 n))) = ((w.filter fun y => decide (y ≠ inv (lt6 n))).filter fun y => decide (y ≠ lt6 n)) := fun w => by
    rw [List.filter_filter, List.filter_filter]
    exact List.filter_congr fun y _ => Bool.and_comm _ _
  rw [comm, step]
  rw [← comm, step, f1 u fun _ h => h, f2 u fun _ h => h]
  have : ∀ y ∈ u, lowL (lt6 n) y = y := fun y hy => by
    unfold lowL
    rw [if_pos (by have := R.ins y hy; rw [hn]; omega)]
  rw [List.map_congr_left this, List.map_id']
inductive spSurfD (vs : List V) (H : Hp) (Q : VK) (u3_ : XK) : Prop
  | mk : ∀ (d : Addr) (n : Nat), (vs = [.ref d, .int (n : Int)]) → (Fd H d) → (1 ≤ n) → (n ≤ 6) → (∀ (u : List L) (H' : Hp), RowN n u → (∀ x : L, x.val % 6 < n → x ∈ u) → Fd H' d → SameB d H H' → Q (tx u) H') → spSurfD vs H Q u3_
end Kx
set_option Elab.async false
set_option linter.all false
set_option maxRecDepth 100000
set_option maxHeartbeats 0
namespace PySem
open Sem (wp)
section
variable {prog : Program} {w : World} {A : Around} {E : Value → Shared → Prop} {s : Shared} {R : Result → Shared → Prop}
end
end PySem
namespace L2
open PySem PySem.Spec PyProof.Rows
section
variable {X : Cx} {e : Expr} {es : List Expr} {t : TA} {x : Str} {p pos : Pos} {a b : Expr} {tb : TE} {ta : St → Hp → (Nat → VK) → Prop}
end
section
variable {X : Cx} {pins : List (Addr × Obj)} {σ : St} {H : Hp} {s : Shared} {n : Nat}
end
section
variable {X : Cx} {E : XK} {pos : Pos}
theorem pee_pair {a b : Expr} {ta tb : TE} {x1 : Nat} (ha : PE X.nox a ta) (hb : PEE X E b tb) (h1 : starEach [a, b] X.env = (false, eval a X.env) :: starEach [b] X.env := by rfl) (h2 : starEach [b] X.env = (false, eval b X.env) :: starEach [] X.env := by rfl) :
    PEE X E (.Tuple [a, b] x1 pos) (tTup (tCons ta (tCons tb tNil))) := by
  intro pins s σ H Q I hq
  refine wpAny_Tuple_spliced ?_
  rw [h1]
  show wpAny _ _ (spliced ((false, eval a X.env) :: backTo pos (starEach [b] X.env))) _ _ s
  refine Calls.spliced_cons (wt I.low (wpAny_mono (ha pins s σ H _ (I.wish _) hq) (fun u s1 z hl => ?_) fun _ _ z => False.elim z))
  obtain ⟨v, H1, I0, r1, q1⟩ := z
  have I1 : Inv X pins σ H1 s1 := I0.unwish.up hl
  rw [h2]
  show wpAny _ _ (spliced ((false, eval b X.env) :: backTo pos (starEach [] X.env))) _ _ s1
  refine Calls.spliced_cons (thn (hb pins s1 σ H1 _ I1 q1) fun u2 s2 z => ?_)
  obtain ⟨v2, H2, I2, r2, hz, q⟩ := z
  refine Calls.spliced_nil ?_
  have r : Vals [v, v2] [u, u2] := .cons r1 (.cons r2 .nil)
  refine ⟨by rw [← r.length]; exact hz, ?_⟩
  have hf : H2 s2.heap.objs.size = none := I2.hok.fresh (Nat.le_refl _)
  refine ⟨.ref s2.heap.objs.size, upd H2 s2.heap.objs.size (.tup [v, v2]), I2.laid (t' := s2.toks) (fun b u e => Heap.get?_push_of_some _ e) (Nat.le_refl _) ?_, rfl, q _ hf⟩
  exact ⟨hz, [u, u2], r, ⟨_, Heap.get?_push_size _ rfl, rfl, _, rfl⟩, .new _ _ rfl⟩
end
end L2
set_option Elab.async false
set_option linter.all false
set_option maxRecDepth 100000
namespace Kx
open PySem PySem.Spec PyProof.Rows L2 Wd
theorem kit_self {K : PySem.W.Frag} {C : Addr} : PySem.W.kitOne K (.ref C) (.ref C) = some true := by unfold PySem.W.kitOne; rw [if_pos (by simp)]
theorem kit_ref2 {K : PySem.W.Frag} {C R : Addr} {bm : List Value} {dd' : Option Addr} {cd' : ClassData} {sl' : Array (Option Value)} (xC : XCl K C bm) (hl' : K.lookup R = some ⟨.type "type", dd', .cls cd', sl'⟩) : PySem.W.kitOne K (.ref C) (.ref R) = some ((Value.ref C :: bm).contains (.ref R)) := by
  obtain ⟨dd, cd, k0, k1, k2, k3, k5, hl, hm, hd, hh⟩ := xC.obj
  unfold PySem.W.kitOne
  by_cases q : (Value.ref C == Value.ref R) = true
  · rw [if_pos q, beq_iff_eq.mp q]; simp
  · rw [if_neg q]
    unfold PySem.W.kitCls
    have h1 : (PySem.W.clsIn K R).isSome = true := by unfold PySem.W.clsIn; rw [hl']; rfl
    have h2 : PySem.W.typeIn K (.ref R) = some (.type "type") := by
      show (K.lookup R).map (·.cls) = _
      rw [hl']; rfl
    simp only [h1, h2, beq_self_eq_true, Bool.and_self, if_true]
    unfold PySem.W.subIn PySem.W.mroIn PySem.W.clsIn
    simp only [hl, Option.bind_some, hm, List.isEmpty_cons, Bool.false_eq_true, if_false]
end Kx
set_option Elab.async false
set_option linter.all false
set_option maxRecDepth 100000
set_option maxHeartbeats 0
namespace L2
open PySem PySem.Spec PyProof.Rows Wd
theorem passes_e0 {X : Cx} : Passes (CXe X.prog X.w) X E0 := by
  rintro pins σ H s e s' I ⟨a, C, d, c, H', he, os, bare, un, hok, ha, hf, hE⟩
  exact False.elim hE
theorem pe_fnTL {X : Cx} {E : XK} {x : Str} {ps : List Str} {k j lo : Nat} {sp : SpT} {e : Expr} {es : List Expr} {t : TA} {p pos : Pos} (hlo : X.lo = lo) (F : FncT X.prog X.w X.K X.mg X.base x ps j sp) (hr : Room k X.A) (hj : j ≤ k) (hx : Passes (CXe X.prog X.w) X E) (hg : Gl X x) (ha : PA X (e :: es) t)
    (hdb : (x == ("__debug__" : Str)) = false := by decide) (he : starEach (e :: es) X.env = (false, eval e X.env) :: starEach es X.env := by rfl) (hpl : (backTo pos (starEach es X.env)).any (·.1) = false := by rfl) :
    PE X (.Call (.Name x p) (e :: es) [] pos) (tCallT lo sp E t) := by
  subst hlo
  exact pe_fnT F hr hj hx hg ha hdb he hpl
theorem Fun.okT {P : Program} {w : World} {K : PySem.W.Frag} {mg : Str → Option Value} {base : Heap} {x qual : Str} {st : Stmt} {f : Addr} {fd : FuncData} {N ps : List Str} {k : Nat} {sp : SpT} (F : Fun K x qual st f fd) (S : FnScope N ps (defScope st)) (len : ∀ n vs H Q E, sp n vs H Q E → vs.length = ps.length)
    (hbody : ∀ (cdv : Value) (A : Around) (outer : List Env) (s : Shared) (H : Hp) (vs : List V) (Q : VK) (E : XK), Room k (A.deeper (envOfC qual (defScope st) s.heap.objs.size f cdv)) → sp s.toks vs H Q E →
      ∃ t, PSs (cxOf CX0 P w K mg base N qual (defScope st) f cdv A outer s H E).nox (defBody st) t ∧ t { nx := fun _ H' => Q .non H', rt := Q } (start N vs) H) : FnOkT P w K mg base CX0 (k + 1) f fd ps sp := by
  obtain ⟨oc, od, kV, doc, pm, an, cdv, ct, osl, rfl, lk, hcd⟩ := F.ex
  refine fn_ofT lk hcd S len fun A outer s H vs Q E hr hsp => ?_
  obtain ⟨t, h, q⟩ := hbody cdv A outer s H vs Q E hr hsp
  exact ⟨t, h.nox, q⟩
end L2
namespace Kx
open PySem PySem.Spec PyProof.Rows L2 Wd
theorem b_ValueError : bootBuiltins "ValueError" = some (.type "ValueError") := by first | rfl | decide +kernel | kernel_rfl
theorem sm_told7 : Sm (.str "told") := ⟨rfl, rfl, by decide, by decide +kernel, by decide +kernel, fun i e => by cases e⟩
theorem sm_band7 : Sm (.str "band") := ⟨rfl, rfl, by decide, by decide +kernel, by decide +kernel, fun i e => by cases e⟩
theorem sh_two7 {a b : PyData} (ha : Sm a) (hb : Sm b) : Sh (.tuple [a, b]) := sh_tupD (fun d hd => by
  rcases List.mem_cons.mp hd with rfl | hd
  · exact ha
  · rw [List.mem_singleton] at hd
    rw [hd]
    exact hb) (by simp)
noncomputable def spLaw70 (K : PySem.W.Frag) (N : Nat) : SpT := fun n vs H Q _ => ∃ (a : Addr) (ns : List Int), vs = [.ref a] ∧ SqL K H a (ns.map V.int) ∧ ns.length ≤ 63 ∧ 0 < N ∧ N ≤ n ∧ ∀ H', Q (.bl true) H'
end Kx
set_option linter.all false
namespace Wd
noncomputable def J (u v : List L) : Prop := ∀ x y, u.getLast? = some x → v.head? = some y → y ≠ inv x
end Wd
set_option linter.all false
namespace Wd
end Wd
namespace L2
open PySem PySem.Spec PyProof.Rows Wd
end L2

set_option Elab.async false
set_option linter.all false
namespace Kx
open PySem PySem.Spec PyProof.Rows L2 Wd
end Kx
set_option Elab.async false
set_option linter.all false
set_option maxRecDepth 100000
set_option maxHeartbeats 0
namespace L2
open PySem PySem.Spec PyProof.Rows Wd
section
variable {X : Cx}
inductive op_isB_r  (x : V) (y : V) (H : Hp) (Q : VK) : Prop
  | mk : ∀ a b, (x = .bl a) → (y = .bl b) → (Q (.bl (a == b)) H) → op_isB_r x y H Q
theorem op_isB : OpR X (compareOp .Is) op_isB_r := by
  intro pins s σ H x y v u Q I rx ry h
  obtain ⟨a, b, rfl, rfl, q⟩ := h
  cases rx
  cases ry
  refine wpAny_is_plain (by cases a <;> cases b <;> rfl) ⟨.bl _, H, I, ?_, q⟩
  cases a <;> cases b <;> rfl
end
end L2
set_option Elab.async false
set_option linter.all false
set_option maxRecDepth 100000
namespace PySem
end PySem
namespace L2
open PySem PySem.Spec PyProof.Rows Wd
section
variable {X : Cx}
end
end L2
set_option Elab.async false
set_option linter.all false
set_option maxRecDepth 100000
namespace HT
open PySem PySem.Spec PyProof.Rows
section
variable {prog : Program} {w : World} {A : Around} {E : Value → Shared → Prop} {s : Shared}
end
end HT
namespace L2
open PySem PySem.Spec PyProof.Rows Wd
section
variable {X : Cx}
end
end L2
namespace L2
open PySem PySem.Spec PyProof.Rows Wd
end L2
namespace L2
open PySem PySem.Spec PyProof.Rows Wd
end L2
set_option Elab.async false
set_option linter.all false
set_option maxRecDepth 100000
namespace L2
open PySem PySem.Spec PyProof.Rows Wd
section
variable {X : Cx}
inductive call_rng1_r  (xs : List V) (H : Hp) (Q : VK) : Prop
  | mk : ∀ (j : Int), (xs = [.int j]) → (∀ p, H p = none → Q (.ref p) (upd H p (.rng 0 j))) → call_rng1_r xs H Q
theorem call_rng1 : CallR X (.type "range") call_rng1_r := by
  intro pins s σ H xs us Q I r h
  obtain ⟨j, rfl, q⟩ := h
  obtain ⟨u, rfl, t, rfl⟩ := vals1 r
  refine call_range_1 ⟨.ref s.heap.objs.size, _, I.laid (o := .rng 0 j) (fun b ob q => Heap.get?_push_of_some _ q) (Nat.le_refl _) ⟨_, _, _, Heap.get?_push_size _ rfl⟩, rfl, q _ (I.hok.fresh (Nat.le_refl _))⟩
end
end L2
namespace HT
open PySem PySem.Spec PyProof.Rows PySem.SeqAt
end HT

namespace L2
open PySem PySem.Spec PyProof.Rows Wd
section
variable {X : Cx}
end
end L2
namespace L2
open PySem PySem.Spec PyProof.Rows Wd
end L2
namespace L2
open PySem PySem.Spec PyProof.Rows Wd
end L2
set_option Elab.async false
set_option linter.all false
set_option maxRecDepth 100000
set_option maxHeartbeats 0
namespace L2
open PySem PySem.Spec PyProof.Rows
inductive rNotRng (x y : V) (H : Hp) (Q : VK) : Prop
  | mk : ∀ (i : Int) (p : Addr) (n : Int), (x = .int i) → (y = .ref p) → (H p = some (.rng 0 n)) → (Q (.bl (!(decide (0 ≤ i) && decide (i < n)))) H) → rNotRng x y H Q
theorem range_place (n i : Int) : (Builtin.Range.rangePlace? 0 n 1 i).isSome = (decide (0 ≤ i) && decide (i < n)) := by
  unfold Builtin.Range.rangePlace?
  have h : (i - 0) % 1 = 0 := by omega
  rw [h, if_pos (show (1 : Int) > 0 by decide)]
  cases decide (0 ≤ i) && decide (i < n) <;> rfl
theorem op_notIn_rng {X : Cx} : OpR X (compareOp .NotIn) rNotRng := by
  intro pins s σ H x y v u Q I rx ry h
  obtain ⟨i, p, n, rfl, rfl, hp, q⟩ := h
  obtain ⟨ti, rfl⟩ := rx
  cases ry
  obtain ⟨t, u, v, e⟩ := (show ObjOk X.prog X.w H s.heap p (.rng 0 n) from I.hok p _ hp)
  have hT : s.TypeIs (.ref p) "range" := ⟨_, e, rfl⟩
  show wpAny _ _ (do return Value.bool (!(← contains (.ref p) (.int i ti)))) _ _ s
  refine wpAny_bind (wpAny_contains_slot hT F.slot_range_contains (wpAny_call_entry F.slot_range_contains hT F.entry_range_contains ?_ (F.args_range_contains_2 _ _)))
  show wpAny _ _ (rule "range.contains.reckoned" >>= _) _ _ s
  refine wpAny_bind (wpAny_rule ?_)
  refine wpAny_bind ?_
  unfold Builtin.Range.rangeFields
  refine wpAny_bind (wpAny_field e rfl (x := .int 0 t) rfl ?_)
  refine wpAny_bind (wpAny_pure ?_)
  refine wpAny_bind (wpAny_field e rfl (x := .int n u) rfl ?_)
  refine wpAny_bind (wpAny_pure ?_)
  refine wpAny_bind (wpAny_field e rfl (x := .int 1 v) rfl ?_)
  refine wpAny_bind (wpAny_pure (wpAny_pure ?_))
  refine wpAny_pure ⟨_, rfl, wpAny_pure (wpAny_pure ⟨.bl _, H, I, rfl, ?_⟩)⟩
  rw [range_place]
  exact q
end L2
set_option Elab.async false
set_option linter.all false
set_option maxRecDepth 100000
set_option maxHeartbeats 0
namespace Kx
open PySem PySem.Spec PyProof.Rows L2 Wd
inductive spDue71 (vs : List V) (H : Hp) (Q : VK) (u3_ : XK) : Prop
  | mk : ∀ (u : List L) (p q : Int), (vs = [tx u, .int p, .int q]) → (u.length % 2 = 0) → (2 ≤ u.length) → (u.length ≤ 12) → (∀ t H', H' t = some (.tup (gluV (glu u p q))) → Same H H' → Q (.ref t) H') → spDue71 vs H Q u3_
theorem small71 : ∀ k : Fin 6, ("abcdef" : Str).cps.toList[k.val]? = some (cp (lt6 k.val)) := by decide +kernel
theorem big71 : ∀ k : Fin 6, ("ABCDEF" : Str).cps.toList[k.val]? = some (cp (inv (lt6 k.val))) := by decide +kernel
theorem glu_band {u : List L} {p q : Int} (h : u.length = 12) : glu u p q = .band := by unfold glu; rw [if_pos h]
theorem glu_s0 {u : List L} {p q : Int} (h : u.length ≠ 12) (h0 : ¬ (0 ≤ p ∧ p ≤ (u.length : Int))) : glu u p q = .slide 0 := by unfold glu; rw [if_neg h, if_neg h0]
theorem glu_s1 {u : List L} {p q : Int} (h : u.length ≠ 12) (h0 : 0 ≤ p ∧ p ≤ (u.length : Int)) (h1 : ¬ (0 ≤ q ∧ q ≤ (u.length : Int) + 1)) : glu u p q = .slide 1 := by unfold glu; rw [if_neg h, if_pos h0, if_neg h1]
theorem glu_ok {u : List L} {p q : Int} (h : u.length ≠ 12) (h0 : 0 ≤ p ∧ p ≤ (u.length : Int)) (h1 : 0 ≤ q ∧ q ≤ (u.length : Int) + 1) : glu u p q = .told (gluW u p.toNat q.toNat (u.length / 2)) := by unfold glu; rw [if_neg h, if_pos h0, if_pos h1]
theorem gluW_len {u : List L} {p q m : Nat} : (gluW u p q m).length = u.length + 2 := by
  have := (glu_perm (u := u) (p := p) (q := q) (m := m)).length_eq
  simpa using this
theorem sm_slide7 : Sm (.str "slide") := ⟨rfl, rfl, by decide, by decide +kernel, by decide +kernel, fun i e => by cases e⟩
theorem sm_num7 {k : Nat} (h : k ≤ 1) : Sm (.int (k : Nat)) := by
  rcases (show k = 0 ∨ k = 1 by omega) with rfl | rfl
  · exact ⟨by decide, rfl, by decide, by decide +kernel, by decide +kernel, fun i e => by cases e; decide⟩
  · exact ⟨by decide, rfl, by decide, by decide +kernel, by decide +kernel, fun i e => by cases e; decide⟩
theorem sm_void7 : Sm (.str "") := ⟨rfl, rfl, by decide, by decide +kernel, by decide +kernel, fun i e => by cases e⟩
theorem glu_dat {u : List L} (h : u.length ≤ 12) (p q : Int) : ∃ d, (∀ (H' : Hp) (t' : Addr), H' t' = some (.tup (gluV (glu u p q))) → Dt H' (.ref t') d) ∧ Sh d ∧ ∀ i, d = .int i → i.natAbs.log2 < 1920 := by
  by_cases h12 : u.length = 12
  · rw [glu_band h12]
    exact ⟨_, fun H' t' f => .tup f (.cons (.str _) (.cons (.str _) .nil)), sh_two7 sm_band7 sm_void7, fun i e => by cases e⟩
  by_cases hp : 0 ≤ p ∧ p ≤ (u.length : Int)
  rotate_left
  · rw [glu_s0 h12 hp]
    exact ⟨_, fun H' t' f => .tup f (.cons (.str _) (.cons (.int _) .nil)), sh_two7 sm_slide7 (sm_num7 (k := 0) (by decide)), fun i e => by cases e⟩
  by_cases hq : 0 ≤ q ∧ q ≤ (u.length : Int) + 1
  rotate_left
  · rw [glu_s1 h12 hp hq]
    exact ⟨_, fun H' t' f => .tup f (.cons (.str _) (.cons (.int _) .nil)), sh_two7 sm_slide7 (sm_num7 (k := 1) (by decide)), fun i e => by cases e⟩
  · rw [glu_ok h12 hp hq]
    exact ⟨_, fun H' t' f => .tup f (.cons (.str _) (.cons (.str _) .nil)), sh_two7 sm_told7 (sm_word (by rw [gluW_len]; omega)), fun i e => by cases e⟩
inductive spRight71 (N n : Nat) (vs : List V) (H : Hp) (Q : VK) (E : XK) : Prop
  | mk : ∀ (u : List L) (m : Nat) (p q : Int), (vs = [tx u, .int p, .int q]) → (0 < N) → (N ≤ n) → (RowN m u) → (1 ≤ m) → (m ≤ 6) → (∀ H', Same H H' → Q (.bl true) H') → spRight71 N n vs H Q E
end Kx
set_option Elab.async false
set_option linter.all false
set_option maxRecDepth 100000
set_option maxHeartbeats 0
namespace Kx
open PySem PySem.Spec PyProof.Rows L2 Wd
noncomputable def top (i : Nat) : Stmt := PySem.Challenge.pw_ringwords_k71_glued.main.body.getD i (.Pass ⟨0, 0, 0, 0⟩)
theorem len1 {α : Type} {us : List α} (h : us.length = 1) : ∃ a0, us = [a0] := by
  cases us with
  | nil => cases h
  | cons a0 us =>
    cases us with
    | nil => exact ⟨a0, rfl⟩
    | cons b us => cases h
theorem len2 {α : Type} {us : List α} (h : us.length = 2) : ∃ a0 a1, us = [a0, a1] := by
  cases us with
  | nil => cases h
  | cons a0 us =>
    cases us with
    | nil => cases h
    | cons a1 us =>
      cases us with
      | nil => exact ⟨a0, a1, rfl⟩
      | cons b us => cases h
theorem len3 {α : Type} {us : List α} (h : us.length = 3) : ∃ a0 a1 a2, us = [a0, a1, a2] := by
  cases us with
  | nil => cases h
  | cons a0 us =>
    cases us with
    | nil => cases h
    | cons a1 us =>
      cases us with
      | nil => cases h
      | cons a2 us =>
        cases us with
        | nil => exact ⟨a0, a1, a2, rfl⟩
        | cons b us => cases h
end Kx
set_option Elab.async false
set_option linter.all false
set_option maxRecDepth 100000
set_option maxHeartbeats 0
namespace Kx
open PySem PySem.Spec PyProof.Rows L2 Wd
section
variable {P : Program} {w : World} {K : PySem.W.Frag} {mg : Str → Option Value} {base : Heap} {aB : Addr}
noncomputable abbrev s_draw : Stmt := top 26
theorem sc_draw : FnScope ["_law_feed_here", "_law_many", "_law_cell", "_law_mixed", "_law_found"] ["_law_feed_here", "_law_many"] (defScope s_draw) := ⟨rfl, rfl, rfl, by decide +kernel, rfl, by decide +kernel, by decide +kernel⟩
theorem c_draw (D : Df K mg "_law_draw" s_draw) (T : Bt K w mg aB) : Fnc P w K mg base "_law_draw" ["_law_feed_here", "_law_many"] 1 spDraw := by
  have sc := sc_draw
  refine D.ok sc (fun _ _ _ _ _ _ us hl => by obtain ⟨_, _, rfl⟩ := len2 hl; rfl) (fun vs H Q E h => ?_) (fun f cdv A outer s H vs Q E hr h => ?_)
  · obtain ⟨d, m, rfl, _⟩ := h
    rfl
  · obtain ⟨d, m, rfl, F, m0, m1, k⟩ := h
    have hu := hu_of hr
    refine ⟨_, (@pss_cons _ _ _ _ _ (@ps_dput _ _ _ _ _ _ _ _ _ hu (pv 0) pe_str (@pe_op _ _ _ _ _ _ _ _ op_add (@pe_dget _ _ _ _ _ _ hu (pv 0) pe_str (fun _ _ => rfl)) pe_int) rfl) (@pss_cons _ _ _ _ _ (@ps_if _ _ _ _ _ _ _ _ (@pt_cmpR _ _ _ _ _ _ _ _ op_eq (@pe_dget _ _ _ _ _ _ hu (pv 0) pe_str (fun _ _ => rfl)) pe_int (nomark _)) (@pss_cons _ _ _ _ _ (@ps_set _ _ (2) _ _ _ _ sc.nd rfl (Or.inl rfl) (@pe_ix _ _ _ _ _ _ _ ix_list (@pe_dget _ _ _ _ _ _ hu (pv 0) pe_str (fun _ _ => rfl)) (@pe_op _ _ _ _ _ _ _ _ op_mod (@pe_dget _ _ _ _ _ _ hu (pv 0) pe_str (fun _ _ => rfl)) (@pe_callB _ _ _ _ _ _ _ _ _ call_len_seq (by rfl) T.len PySem.boot_len (@pa_cons _ _ _ _ _ (@pe_dget _ _ _ _ _ _ hu (pv 0) pe_str (fun _ _ => rfl)) pa_nil (by rfl)) (by decide) (by decide) (by rfl) (by rfl))) (fun _ _ => rfl)) (by rfl) (by first | exact .inl rfl | exact .inr rfl | assumption)) (@pss_cons _ _ _ _ _ (@ps_dput _ _ _ _ _ _ _ _ _ hu (pv 0) pe_str (@pe_op _ _ _ _ _ _ _ _ op_add (@pe_dget _ _ _ _ _ _ hu (pv 0) pe_str (fun _ _ => rfl)) pe_int) rfl) (@pss_cons _ _ _ _ _ (@ps_if _ _ _ _ _ _ _ _ (@pt_cmpR _ _ _ _ _ _ _ _ op_lt (pv 2) (@pe_op _ _ _ _ _ _ _ _ op_pow pe_int pe_int) (nomark _)) (@pss_cons _ _ _ _ _ (@ps_set _ _ (3) _ _ _ _ sc.nd rfl (Or.inl rfl) (@pe_op _ _ _ _ _ _ _ _ op_mod (@pe_op _ _ _ _ _ _ _ _ op_mul (@pe_op _ _ _ _ _ _ _ _ op_add (@pe_op _ _ _ _ _ _ _ _ op_mod (pv 2) pe_int) (@pe_op _ _ _ _ _ _ _ _ op_mul pe_int (@pe_dget _ _ _ _ _ _ hu (pv 0) pe_str (fun _ _ => rfl)))) pe_int) pe_int) (by rfl) (by first | exact .inl rfl | exact .inr rfl | assumption)) (@pss_cons _ _ _ _ _ (@ps_set _ _ (3) _ _ _ _ sc.nd rfl (Or.inl rfl) (@pe_op _ _ _ _ _ _ _ _ op_mod (@pe_op _ _ _ _ _ _ _ _ op_mul (@pe_op _ _ _ _ _ _ _ _ op_add (@pe_op _ _ _ _ _ _ _ _ op_fdiv (pv 3) pe_int) (@pe_op _ _ _ _ _ _ _ _ op_mul pe_int (@pe_dget _ _ _ _ _ _ hu (pv 0) pe_str (fun _ _ => rfl)))) pe_int) pe_int) (by rfl) (by first | exact .inl rfl | exact .inr rfl | assumption)) (@pss_one _ _ _ (@ps_ret _ _ _ _ (@pe_op _ _ _ _ _ _ _ _ op_mod (@pe_op _ _ _ _ _ _ _ _ op_fdiv (pv 3) pe_int) (pv 1)))))) pss_nil) (@pss_one _ _ _ (@ps_dput _ _ _ _ _ _ _ _ _ hu (pv 0) pe_str (pv 2) rfl))))) pss_nil) (@pss_cons _ _ _ _ _ (@ps_set _ _ (4) _ _ _ _ sc.nd rfl (Or.inl rfl) (@pe_op _ _ _ _ _ _ _ _ op_mod (@pe_dget _ _ _ _ _ _ hu (pv 0) pe_str (fun _ _ => rfl)) (pv 1)) (by rfl) (by first | exact .inl rfl | exact .inr rfl | assumption)) (@pss_cons _ _ _ _ _ (@ps_dput _ _ _ _ _ _ _ _ _ hu (pv 0) pe_str (@pe_op _ _ _ _ _ _ _ _ op_fdiv (@pe_dget _ _ _ _ _ _ hu (pv 0) pe_str (fun _ _ => rfl)) (pv 1)) rfl) (@pss_one _ _ _ (@ps_ret _ _ _ _ (pv 4))))))), ?_⟩
    obtain ⟨c, i, l, t, ns, hd, hc, hne, h64⟩ := F.ex
    have dc : c ≠ d := ne_of hc hd (by intro z; cases z)
    have fin : ∀ (r i' l' t' : Int), 0 ≤ r → r < m → Q (.int r) (upd H d (.dK (fkv c i' l' t'))) := fun r i' l' t' h0 h1 =>
      k r _ h0 h1 ⟨c, i', l', t', ns, upd_same, by rw [upd_ne dc]; exact hc, hne, h64⟩ SameB.upd
    have c1 : ∀ o, (upd H d o) c = some (.lst (ns.map V.int)) := fun o => by rw [upd_ne dc]; exact hc
    have hl0 : (0 : Int) < ((ns.map V.int).length : Int) := by
      rw [List.length_map]
      have := List.length_pos_iff.mpr hne
      omega
    refine ⟨_, rfl, d, _, rfl, dg hd (g_turn c i l t), _, _, rfl, rfl, _, rfl, d, _, rfl, dp hd (fkv_len c i l t) (p_turn c i l t _), ?_⟩
    refine ⟨_, rfl, d, _, rfl, dg upd_same (g_left c i l _), rfl, _, rfl, ?_⟩
    refine ite2 (fun _ => ?_) (fun _ => ?_)
    rotate_left
    · refine ⟨_, rfl, d, _, rfl, dg upd_same (g_left c _ _ _), _, rfl, _, _, rfl, rfl, m0, ?_⟩
      refine ⟨_, rfl, d, _, rfl, dg upd_same (g_left c _ _ _), _, rfl, _, _, rfl, rfl, ⟨m0, by omega⟩, _, rfl, d, _, rfl, dp upd_same (fkv_len c _ _ _) (p_left c _ _ _ _), ?_⟩
      refine ⟨_, rfl, ?_⟩
      rw [upd_upd]
      exact fin _ _ _ _ (Int.emod_nonneg _ (by omega)) (Int.emod_lt_of_pos _ m0)
    obtain ⟨n, hn⟩ := cell_at hne i
    refine ⟨_, rfl, d, _, rfl, dg upd_same (g_cells c i l _), _, rfl, d, _, rfl, dg upd_same (g_at c i l _), _, rfl, d, _, rfl, dg upd_same (g_cells c i l _), c, _, rfl, .inl (SqL.of (c1 _)), _, _, rfl, rfl, hl0, c, _, _, _, rfl, rfl, SqL.of (c1 _), hn, ?_⟩
    refine ⟨_, rfl, d, _, rfl, dg upd_same (g_at c i l _), _, _, rfl, rfl, _, rfl, d, _, rfl, dp upd_same (fkv_len c i l _) (p_at c i l _ _), ?_⟩
    rw [upd_upd]
    refine ⟨_, rfl, _, _, rfl, rfl, ⟨by decide, by decide, by decide⟩, _, _, rfl, rfl, _, rfl, ?_⟩
    refine ite2 (fun _ => ?_) (fun _ => ?_)
    · refine ⟨_, rfl, _, _, rfl, rfl, (by show (0 : Int) < 2147483629; decide), _, rfl, d, _, rfl, dg upd_same (g_turn c _ l _), _, _, rfl, rfl, .inl ⟨by decide, by decide⟩, _, _, rfl, rfl, _, _, rfl, rfl, .inr ⟨by decide, by decide⟩, _, _, rfl, rfl, (by show (0 : Int) < 2147483647; decide), ?_⟩
      refine ⟨_, rfl, _, _, rfl, rfl, ⟨by decide, by decide⟩, _, rfl, d, _, rfl, dg upd_same (g_turn c _ l _), _, _, rfl, rfl, .inl ⟨by decide, by decide⟩, _, _, rfl, rfl, _, _, rfl, rfl, .inr ⟨by decide, by decide⟩, _, _, rfl, rfl, (by show (0 : Int) < 2147483587; decide), ?_⟩
      refine ⟨_, rfl, _, _, rfl, rfl, ⟨by decide, by decide⟩, _, rfl, _, _, rfl, rfl, m0, ?_⟩
      exact fin _ _ _ _ (Int.emod_nonneg _ (by omega)) (Int.emod_lt_of_pos _ m0)
    · refine ⟨_, rfl, _, rfl, d, _, rfl, dp upd_same (fkv_len c _ l _) (p_left c _ l _ _), ?_⟩
      rw [upd_upd]
      refine ⟨_, rfl, d, _, rfl, dg upd_same (g_left c _ _ _), _, rfl, _, _, rfl, rfl, m0, ?_⟩
      refine ⟨_, rfl, d, _, rfl, dg upd_same (g_left c _ _ _), _, rfl, _, _, rfl, rfl, ⟨m0, by omega⟩, _, rfl, d, _, rfl, dp upd_same (fkv_len c _ _ _) (p_left c _ _ _ _), ?_⟩
      refine ⟨_, rfl, ?_⟩
      rw [upd_upd]
      exact fin _ _ _ _ (Int.emod_nonneg _ (by omega)) (Int.emod_lt_of_pos _ m0)
end
section
variable {P : Program} {w : World} {K : PySem.W.Frag} {mg : Str → Option Value} {base : Heap} {aB : Addr}
noncomputable abbrev s_feed : Stmt := top 25
theorem sc_feed : FnScope ["_law_script"] ["_law_script"] (defScope s_feed) := ⟨rfl, rfl, rfl, by decide +kernel, rfl, by decide +kernel, by decide +kernel⟩
theorem c_feed (D : Df K mg "_law_feed" s_feed) (T : Bt K w mg aB) : Fnc P w K mg base "_law_feed" ["_law_script"] 1 (spFeed K) := by
  have sc := sc_feed
  refine D.ok sc (fun _ _ _ _ _ _ us hl => by obtain ⟨_, rfl⟩ := len1 hl; rfl) (fun vs H Q E h => ?_) (fun f cdv A outer s H vs Q E hr h => ?_)
  · obtain ⟨a, ns, rfl, _⟩ := h
    rfl
  · obtain ⟨a, ns, rfl, hS, hlen, k⟩ := h
    have hu := hu_of hr
    refine ⟨_, (@pss_one _ _ _ (@ps_ret _ _ _ _ (@pe_disp _ _ _ _ _ (@pps_cons _ _ _ _ _ _ _ _ _ pe_str (@pe_op _ _ _ _ _ _ _ _ op_cat (@pe_callTy _ _ _ _ _ _ _ _ _ call_list_of (by rfl) T.list b_list (@pa_cons _ _ _ _ _ (@pe_slice _ _ _ _ _ _ _ _ _ _ sl_list (pv 0) po_none (@po_some _ _ _ pe_int)) pa_nil (by rfl)) (by decide) (by decide) (by rfl) (by rfl)) (@pe_op _ _ _ _ _ _ _ _ op_rep (@pe_lst _ _ _ _ (@pa_cons _ _ _ _ _ pe_int pa_nil (by rfl))) (@pe_callTy _ _ _ _ _ _ _ _ _ call_int1 (by rfl) T.int b_int (@pa_cons _ _ _ _ _ (@pe_cmpR _ _ _ _ _ _ _ _ op_eq (@pe_callB _ _ _ _ _ _ _ _ _ call_len_seq (by rfl) T.len PySem.boot_len (@pa_cons _ _ _ _ _ (pv 0) pa_nil (by rfl)) (by decide) (by decide) (by rfl) (by rfl)) pe_int (nomark _)) pa_nil (by rfl)) (by decide) (by decide) (by rfl) (by rfl)))) (@pps_cons _ _ _ _ _ _ _ _ _ pe_str pe_int (@pps_cons _ _ _ _ _ _ _ _ _ pe_str pe_int (@pps_cons _ _ _ _ _ _ _ _ _ pe_str pe_int pps_nil)))) rfl rfl (by simp) (by decide)))), ?_⟩
    intro p hp
    have s1 : Same H (upd H p (.dK [])) := Same.new hp
    have p1 : (upd H p (.dK [])) p = some (.dK []) := upd_same
    generalize upd H p (.dK []) = H1 at s1 p1
    refine ⟨_, rfl, _, rfl, a, _, rfl, s1.seq hS, fun q1 hq1 => ?_⟩
    rw [cut63 hlen]
    have s2 : Same H1 (upd H1 q1 (.lst (ns.map V.int))) := Same.new hq1
    have l2 : (upd H1 q1 (.lst (ns.map V.int))) q1 = some (.lst (ns.map V.int)) := upd_same
    generalize upd H1 q1 (.lst (ns.map V.int)) = H2 at s2 l2 ⊢
    refine ⟨q1, _, rfl, .inl (SqL.of l2), fun q2 hq2 => ?_⟩
    have s3 : Same H2 (upd H2 q2 (.lst (ns.map V.int))) := Same.new hq2
    have l3 : (upd H2 q2 (.lst (ns.map V.int))) q2 = some (.lst (ns.map V.int)) := upd_same
    generalize upd H2 q2 (.lst (ns.map V.int)) = H3 at s3 l3 ⊢
    refine ⟨(by show 1 ≤ sizeLine; decide), fun q4 hq4 => ?_⟩
    have s4 : Same H3 (upd H3 q4 (.lst [V.int 0])) := Same.new hq4
    have l4 : (upd H3 q4 (.lst [V.int 0])) q4 = some (.lst [V.int 0]) := upd_same
    generalize upd H3 q4 (.lst [V.int 0]) = H4 at s4 l4 ⊢
    have s14 : Same H H4 := ((s1.trans s2).trans s3).trans s4
    refine ⟨_, rfl, a, _, rfl, .inl (s14.seq hS), rfl, .inr ⟨_, rfl, q4, _, _, rfl, rfl, l4, ?_, ?_, ?_, fun q5 hq5 => ?_⟩⟩
    · split <;> decide
    · split <;> decide
    · split <;> decide
    have s5 : Same H4 (upd H4 q5 (.lst (List.replicate ((if decide (V.int ((ns.map V.int).length : Int) = V.int 0) = true then 1 else 0 : Int)).toNat [V.int 0]).flatten)) := Same.new hq5
    have l5 : (upd H4 q5 (.lst (List.replicate ((if decide (V.int ((ns.map V.int).length : Int) = V.int 0) = true then 1 else 0 : Int)).toNat [V.int 0]).flatten)) q5 = _ := upd_same
    generalize upd H4 q5 (.lst (List.replicate ((if decide (V.int ((ns.map V.int).length : Int) = V.int 0) = true then 1 else 0 : Int)).toNat [V.int 0]).flatten) = H5 at s5 l5 ⊢
    refine ⟨q2, q5, _, _, rfl, rfl, s5 _ _ (s4 _ _ l3), l5, ?_, fun q6 hq6 => ?_⟩
    · have e : (List.replicate ((if decide (V.int ((ns.map V.int).length : Int) = V.int 0) = true then 1 else 0 : Int)).toNat [V.int 0]).flatten.length ≤ 1 := by split <;> decide
      have e2 : sizeLine = 16777216 := sizeLine_eq
      have e3 : (ns.map V.int).length = ns.length := List.length_map ..
      omega
    have el : ns.map V.int ++ (List.replicate ((if decide (V.int ((ns.map V.int).length : Int) = V.int 0) = true then 1 else 0 : Int)).toNat [V.int 0]).flatten = (if ns = [] then [0] else ns).map V.int := by
      cases ns with
      | nil => rfl
      | cons n r =>
        have en : ¬ (decide (V.int (((n :: r).map V.int).length : Int) = V.int 0) = true) := by
          rw [List.length_map, List.length_cons]
          simp only [V.int.injEq, decide_eq_true_eq]
          omega
        rw [if_neg en, if_neg (by simp)]
        simp
    rw [el]
    have s6 : Same H5 (upd H5 q6 (.lst ((if ns = [] then [0] else ns).map V.int))) := Same.new hq6
    have l6 : (upd H5 q6 (.lst ((if ns = [] then [0] else ns).map V.int))) q6 = _ := upd_same
    generalize upd H5 q6 (.lst ((if ns = [] then [0] else ns).map V.int)) = H6 at s6 l6 ⊢
    have p6 : H6 p = some (.dK []) := s6 _ _ (s5 _ _ (s4 _ _ (s3 _ _ (s2 _ _ p1))))
    have pq : q6 ≠ p := ne_of l6 p6 (by intro z; cases z)
    refine ⟨p6, fkv q6 0 0 0, rfl, (by show 4 ≤ 15; decide), ?_⟩
    rw [m_fkv]
    refine k p _ hp ⟨q6, 0, 0, 0, (if ns = [] then [0] else ns), upd_same, by rw [upd_ne pq]; exact l6, ?_, ?_⟩ fun b o e => ?_
    · split
      · simp
      · assumption
    · split
      · decide
      · omega
    · rw [upd_ne (ne_of_none e hp)]
      exact s6 _ _ (s5 _ _ (s14 _ _ e))
end
end Kx
set_option Elab.async false
set_option linter.all false
set_option maxRecDepth 100000
set_option maxHeartbeats 0
namespace Kx
open PySem PySem.Spec PyProof.Rows L2 Wd
section
variable {P : Program} {w : World} {K : PySem.W.Frag} {mg : Str → Option Value} {base : Heap} {aB : Addr}
noncomputable abbrev s_back : Stmt := top 13
theorem sc_back : FnScope ["word"] ["word"] (defScope s_back) := ⟨rfl, rfl, rfl, by decide +kernel, rfl, by decide +kernel, by decide +kernel⟩
theorem c_back (D : Df K mg "back" s_back) (T : Bt K w mg aB) : Fnc P w K mg base "back" ["word"] 1 spBk := by
  have sc := sc_back
  refine D.ok sc (fun _ _ _ _ _ _ us hl => by obtain ⟨_, rfl⟩ := len1 hl; rfl) (fun vs H Q E h => ?_) (fun f cdv A outer s H vs Q E hr h => ?_)
  · obtain ⟨u, rfl, _⟩ := h
    rfl
  · obtain ⟨u, rfl, hu, k⟩ := h
    have l16 := line16
    refine ⟨_, (@pss_one _ _ _ (@ps_ret _ _ _ _ (@pe_bm _ _ _ _ _ _ _ _ _ _ _ _ PySem.F.plainAttrs_str PySem.F.slot_str_join PySem.F.type_str_join mt_join pe_str (@pa_cons _ _ _ _ _ (@pe_comp _ _ _ _ _ _ _ (["letter"]) (["letter"]) ([]) _ _ _ _ (@blk_of _ _ _ _ _ _ rfl (by kernel_rfl)) rfl (@pi_strR _ _ _ _ _ _ rfl T.reversed b_reversed (@pa_cons _ _ _ _ _ (pv 0) pa_nil (by rfl)) (by rfl)) (fun _ _ _ _ => @pg_name _ _ (0) _ (show (["letter"] : List Str).Nodup from by decide +kernel) rfl (Or.inl rfl) (by first | exact .inl rfl | exact .inr rfl | assumption)) (fun _ _ _ _ => pifs_nil) (fun _ _ _ _ => by (exact (@pe_kget _ _ _ _ _ _ _ _ _ T.dB rfl rfl rfl T.mgB (pv 0) (fun _ _ => rfl) (by decide)))) (by intro _ ; rfl)) pa_nil (by rfl)) (by rfl) (by rfl) (by rfl) (by rfl) (by rfl)))), ?_⟩
    refine ⟨rfl, _, rfl, _, rfl, (by rw [toS_length]; omega), ?_⟩
    refine comp_by (own := ["letter"]) (cap := []) (J := Itsr (toS u)) u.length (fun i ys σ H' => H' = H ∧ ys = ones ((bk u).take i) ∧ ∃ v, σ = [v]) ⟨rfl, rfl, none, rfl⟩ (fun i ys σ H' hi ⟨_, e, _⟩ => ?_) (by omega) (fun i ys σ H' hi _ => ?_) (fun ys σ H' _ => ?_) ?_ ?_
    · rw [e, ones_length, List.length_take]; omega
    · show i < (toS u).cps.size; rw [toS_size]; exact hi
    · show _ = (toS u).cps.size; rw [toS_size]
    · rintro i ys σ H1 x H2 N hi ⟨rfl, rfl, v, rfl⟩ ⟨rfl, c, hc, rfl⟩ hN
      rw [toS_size] at hc
      obtain ⟨y, hy, e⟩ := sign_at hc
      obtain ⟨t, ht⟩ := T.gB y
      refine ⟨_, rfl, toS [y], toS [inv y], t, by rw [e], ht, hN _ _ _ ⟨rfl, ?_, _, rfl⟩⟩
      rw [take_snoc (bk_get u hi hy), ← ones_snoc]
      rfl
    · rintro ys σ H1 l ⟨rfl, rfl, v, rfl⟩ hl
      rw [List.take_of_length_le (by rw [bk_length]; exact Nat.le_refl _)]
      refine ⟨_, l, (bk u).map fun x => toS [x], rfl, rfl, SqL.of (by rw [upd_same, ones_str]), join_room _ (by rw [bk_length]; omega), ?_⟩
      rw [join_ones]
      exact k _ (Same.new hl)
end
section
variable {P : Program} {w : World} {K : PySem.W.Frag} {mg : Str → Option Value} {base : Heap} {aB : Addr}
theorem c_backT {N : Nat} (D : Df K mg "back" s_back) (T : Bt K w mg aB) (G : ∀ x : L, ∃ t, 0 < t ∧ t < N ∧ PySem.W.nsIn K aB (toS [x]) = some (some (.str (toS [inv x]) t))) : Fnc P w K mg base "back" ["word"] 1 (spBk1 N) := by
  have sc := sc_back
  refine D.ok sc (fun _ _ _ _ _ _ us hl => by obtain ⟨_, rfl⟩ := len1 hl; rfl) (fun vs H Q E h => ?_) (fun f cdv A outer s H vs Q E hr h => ?_)
  · obtain ⟨x, rfl, _⟩ := h
    rfl
  · obtain ⟨x, rfl, k⟩ := h
    have l16 := line16
    obtain ⟨t, t0, tN, ht⟩ := G x
    refine ⟨_, (@pss_one _ _ _ (@ps_ret _ _ _ _ (@pe_bm _ _ _ _ _ _ _ _ _ _ _ _ PySem.F.plainAttrs_str PySem.F.slot_str_join PySem.F.type_str_join mt_join1 pe_str (@pa_cons _ _ _ _ _ (@pe_comp _ _ _ _ _ _ _ (["letter"]) (["letter"]) ([]) _ _ _ _ (@blk_of _ _ _ _ _ _ rfl (by kernel_rfl)) rfl (@pi_strR _ _ _ _ _ _ rfl T.reversed b_reversed (@pa_cons _ _ _ _ _ (pv 0) pa_nil (by rfl)) (by rfl)) (fun _ _ _ _ => @pg_name _ _ (0) _ (show (["letter"] : List Str).Nodup from by decide +kernel) rfl (Or.inl rfl) (by first | exact .inl rfl | exact .inr rfl | assumption)) (fun _ _ _ _ => pifs_nil) (fun _ _ _ _ => by (exact (@pe_kgetT _ _ _ _ _ _ _ _ _ T.dB rfl rfl rfl T.mgB (pv 0) (fun _ _ => rfl) (by decide)))) (by intro _ ; rfl)) pa_nil (by rfl)) (by rfl) (by rfl) (by rfl) (by rfl) (by rfl)))), ?_⟩
    refine ⟨rfl, _, rfl, _, rfl, (by rw [toS_length]; show 1 ≤ _; omega), ?_⟩
    refine comp_by (own := ["letter"]) (cap := []) (J := Itsr (toS [x])) 1 (fun i ys σ H' => H' = H ∧ ys = ([V.tks (toS [inv x]) t]).take i ∧ ∃ v, σ = [v]) ⟨rfl, rfl, none, rfl⟩ (fun i ys σ H' hi ⟨_, e, _⟩ => ?_) (by omega) (fun i ys σ H' hi _ => ?_) (fun ys σ H' _ => ?_) ?_ ?_
    · rw [e, List.length_take]; omega
    · show i < (toS [x]).cps.size; rw [toS_size]; exact hi
    · show _ = (toS [x]).cps.size; rw [toS_size]; rfl
    · rintro i ys σ H1 z H2 N' hi ⟨rfl, rfl, v, rfl⟩ ⟨rfl, c, hc, rfl⟩ hN
      rw [toS_size] at hc
      obtain ⟨y, hy, e⟩ := sign_at hc
      obtain rfl : i = 0 := by omega
      obtain rfl : x = y := Option.some.inj hy
      exact ⟨_, rfl, toS [x], toS [inv x], t, by rw [e], ht, hN _ _ _ ⟨rfl, rfl, _, rfl⟩⟩
    · rintro ys σ H1 l ⟨rfl, rfl, v, rfl⟩ hl
      refine ⟨_, l, toS [inv x], t, rfl, rfl, SqL.of upd_same, ?_, ?_⟩
      · rw [toS_length, show (Str.ofString "").length = 0 by decide +kernel]; show 1 + 0 ≤ 1000; decide
      · exact k t _ t0 tN (Same.new hl)
end
end Kx
set_option Elab.async false
set_option linter.all false
set_option maxRecDepth 100000
set_option maxHeartbeats 0
namespace Kx
open PySem PySem.Spec PyProof.Rows L2 Wd
section
variable {P : Program} {w : World} {K : PySem.W.Frag} {mg : Str → Option Value} {base : Heap} {aB : Addr}
noncomputable abbrev s_num : Stmt := top 12
theorem sc_num : FnScope ["letter"] ["letter"] (defScope s_num) := ⟨rfl, rfl, rfl, by decide +kernel, rfl, by decide +kernel, by decide +kernel⟩
theorem c_num (D : Df K mg "number_of" s_num) (T : Bt K w mg aB) (S : ∃ t, mg "SMALL" = some (.str "abcdef" t)) : Fnc P w K mg base "number_of" ["letter"] 1 spNum := by
  have sc := sc_num
  refine D.ok sc (fun _ _ _ _ _ _ us hl => by obtain ⟨_, rfl⟩ := len1 hl; rfl) (fun vs H Q E h => ?_) (fun f cdv A outer s H vs Q E hr h => ?_)
  · obtain ⟨x, rfl, _⟩ := h
    rfl
  · obtain ⟨x, rfl, k⟩ := h
    obtain ⟨tS, mgS⟩ := S
    refine ⟨_, (@pss_one _ _ _ (@ps_ret _ _ _ _ (@pe_bm _ _ _ _ _ _ _ _ _ _ _ _ PySem.F.plainAttrs_str PySem.F.slot_str_index PySem.F.type_str_index mt_index (@pe_glob _ _ (.str "abcdef") _ _ rfl mgS ⟨_, rfl⟩ (by decide)) (@pa_cons _ _ _ _ _ (@pe_bm0 _ _ _ _ _ _ _ _ _ PySem.F.plainAttrs_str PySem.F.slot_str_lower PySem.F.type_str_lower mt_lower (pv 0) (by rfl) (by rfl)) pa_nil (by rfl)) (by rfl) (by rfl) (by rfl) (by rfl) (by rfl)))), ?_⟩
    exact ⟨rfl, _, rfl, rfl, _, rfl, rfl, (by rw [toS_length]; show 1 ≤ 5592405; decide), _, _, _, _, rfl, rfl, num_at x, k⟩
end
section
variable {P : Program} {w : World} {K : PySem.W.Frag} {mg : Str → Option Value} {base : Heap} {aB : Addr}
theorem low_at : ∀ x y : L, y.val % 6 ≠ x.val % 6 → y.val % 6 < x.val % 6 → lowL x y = y := by decide
theorem low_small : ∀ x y : L, ¬ y.val % 6 < x.val % 6 → y.val % 6 ≠ x.val % 6 → y.val < 6 → lt6 (y.val % 6 - 1) = lowL x y := by decide
theorem low_great : ∀ x y : L, ¬ y.val % 6 < x.val % 6 → y.val % 6 ≠ x.val % 6 → ¬ y.val < 6 → inv (lt6 (y.val % 6 - 1)) = lowL x y := by decide
theorem small_at7 : ∀ k : Fin 6, ("abcdef" : Str).cps.toList[k.val]? = some (cp (lt6 k.val)) := by decide +kernel
theorem islow : ∀ y : L, Txt.islower (toS [y]) = decide (y.val < 6) := by decide +kernel
noncomputable abbrev s_low : Stmt := top 21
theorem sc_low : FnScope ["letter", "sign", "small"] ["letter", "sign"] (defScope s_low) := ⟨rfl, rfl, rfl, by decide +kernel, rfl, by decide +kernel, by decide +kernel⟩
theorem c_low (D : Df K mg "lower_letter" s_low) (T : Bt K w mg aB) (S : ∃ t, mg "SMALL" = some (.str "abcdef" t)) (F_num : Fnc P w K mg base "number_of" ["letter"] 1 spNum) (F_back : Fnc P w K mg base "back" ["word"] 1 spBk) : Fnc P w K mg base "lower_letter" ["letter", "sign"] 2 spLowL := by
  have sc := sc_low
  refine D.ok sc (fun _ _ _ _ _ _ us hl => by obtain ⟨_, _, rfl⟩ := len2 hl; rfl) (fun vs H Q E h => ?_) (fun f cdv A outer s H vs Q E hr h => ?_)
  · obtain ⟨x, y, rfl, _⟩ := h
    rfl
  · obtain ⟨x, y, rfl, ne, k⟩ := h
    obtain ⟨tS, mgS⟩ := S
    have l16 := line16
    refine ⟨_, (@pss_cons _ _ _ _ _ (@ps_if _ _ _ _ _ _ _ _ (@pt_cmpR _ _ _ _ _ _ _ _ op_lt (@pe_fn _ _ _ _ _ _ _ _ _ _ _ F_num hr (by decide) rfl (@pa_cons _ _ _ _ _ (pv 1) pa_nil (by rfl)) (by decide) (by rfl) (by rfl)) (@pe_fn _ _ _ _ _ _ _ _ _ _ _ F_num hr (by decide) rfl (@pa_cons _ _ _ _ _ (pv 0) pa_nil (by rfl)) (by decide) (by rfl) (by rfl)) (nomark _)) (@pss_one _ _ _ (@ps_ret _ _ _ _ (pv 1))) pss_nil) (@pss_cons _ _ _ _ _ (@ps_set _ _ (2) _ _ _ _ sc.nd rfl (Or.inl rfl) (@pe_ix _ _ _ _ _ _ _ ix_str (@pe_glob _ _ (.str "abcdef") _ _ rfl mgS ⟨_, rfl⟩ (by decide)) (@pe_op _ _ _ _ _ _ _ _ op_sub (@pe_fn _ _ _ _ _ _ _ _ _ _ _ F_num hr (by decide) rfl (@pa_cons _ _ _ _ _ (pv 1) pa_nil (by rfl)) (by decide) (by rfl) (by rfl)) pe_int) (fun _ _ => rfl)) (by rfl) (by first | exact .inl rfl | exact .inr rfl | assumption)) (@pss_one _ _ _ (@ps_ret _ _ _ _ (@pe_ifExp _ _ _ _ _ _ _ _ (@pt_truth _ _ _ (@pe_bm0 _ _ _ _ _ _ _ _ _ PySem.F.plainAttrs_str PySem.F.slot_str_islower PySem.F.type_str_islower mt_islower (pv 1) (by rfl) (by rfl)) (fun _ => rfl)) (pv 2) (@pe_fn _ _ _ _ _ _ _ _ _ _ _ F_back hr (by decide) rfl (@pa_cons _ _ _ _ _ (pv 2) pa_nil (by rfl)) (by decide) (by rfl) (by rfl))))))), ?_⟩
    refine ⟨_, rfl, y, rfl, _, rfl, x, rfl, _, _, rfl, rfl, _, rfl, ite2 (fun h => ?_) (fun h => ?_)⟩
    · have h : y.val % 6 < x.val % 6 := by have := of_decide_eq_true h; omega
      refine ⟨_, rfl, ?_⟩
      rw [← low_at x y ne h]
      exact k _ (Same.refl _)
    · have h : ¬ y.val % 6 < x.val % 6 := fun q => h (decide_eq_true (by omega))
      have hy : y.val % 6 < 6 := Nat.mod_lt _ (by decide)
      have at0 : atI ("abcdef" : Str).cps.toList ((y.val % 6 : Nat) - 1 : Int) = some (cp (lt6 (y.val % 6 - 1))) := by
        have e : ((y.val % 6 : Nat) - 1 : Int) = ((y.val % 6 - 1 : Nat) : Int) := by omega
        rw [e]
        exact atI_nat (small_at7 ⟨y.val % 6 - 1, by omega⟩)
      refine ⟨_, rfl, y, rfl, _, _, rfl, rfl, _, _, _, rfl, rfl, (by decide +kernel), at0, ?_⟩
      refine ⟨_, rfl, rfl, _, rfl, rfl, _, rfl, ?_⟩
      show if Txt.islower (toS [y]) = true then _ else _
      rw [islow]
      refine ite2 (fun h6 => ?_) (fun h6 => ?_)
      · rw [low_small x y h ne (of_decide_eq_true h6)]
        exact ⟨_, rfl, k _ (Same.refl _)⟩
      · refine ⟨_, rfl, [lt6 (y.val % 6 - 1)], rfl, (by show 1 ≤ 5000; decide), fun H1 s1 => ?_⟩
        rw [bk_one, low_great x y h ne (fun q => h6 (decide_eq_true q))]
        exact k _ s1
noncomputable abbrev s_lowd : Stmt := top 20
theorem sc_lowd : FnScope ["letter", "word"] ["letter", "word"] (defScope s_lowd) := ⟨rfl, rfl, rfl, by decide +kernel, rfl, by decide +kernel, by decide +kernel⟩
theorem c_lowd (D : Df K mg "lowered" s_lowd) (T : Bt K w mg aB) (F_low : Fnc P w K mg base "lower_letter" ["letter", "sign"] 2 spLowL) : Fnc P w K mg base "lowered" ["letter", "word"] 3 spLowered := by
  have sc := sc_lowd
  refine D.ok sc (fun _ _ _ _ _ _ us hl => by obtain ⟨_, _, rfl⟩ := len2 hl; rfl) (fun vs H Q E h => ?_) (fun f cdv A outer s H vs Q E hr h => ?_)
  · obtain ⟨x, u, rfl, _⟩ := h
    rfl
  · obtain ⟨x, u, rfl, hu, hne, k⟩ := h
    have l16 := line16
    refine ⟨_, (@pss_one _ _ _ (@ps_ret _ _ _ _ (@pe_bm _ _ _ _ _ _ _ _ _ _ _ _ PySem.F.plainAttrs_str PySem.F.slot_str_join PySem.F.type_str_join mt_join pe_str (@pa_cons _ _ _ _ _ (@pe_comp _ _ _ _ _ _ _ (["sign", "letter"]) (["sign"]) ([0]) _ _ _ _ (@blk_of _ _ _ _ _ _ rfl (by kernel_rfl)) rfl (@pi_str _ _ _ _ (pv 1)) (fun _ _ _ _ => @pg_name _ _ (0) _ (show (["sign", "letter"] : List Str).Nodup from by decide +kernel) rfl (Or.inl rfl) (by first | exact .inl rfl | exact .inr rfl | assumption)) (fun _ _ _ _ => pifs_nil) (fun _ _ _ _ => by (exact (@pe_fn _ _ _ _ _ _ _ _ _ _ _ F_low hr (by decide) rfl (@pa_cons _ _ _ _ _ (pv 1) (@pa_cons _ _ _ _ _ (pv 0) pa_nil (by rfl)) (by rfl)) (by decide) (by rfl) (by rfl)))) (by intro _ ; rfl)) pa_nil (by rfl)) (by rfl) (by rfl) (by rfl) (by rfl) (by rfl)))), ?_⟩
    refine ⟨rfl, _, rfl, _, rfl, ?_⟩
    refine comp_by (own := ["sign"]) (cap := [0]) (J := Its (toS u)) u.length (fun j ys σ H' => ∃ v : Option V, σ = [v, some (tx [x])] ∧ ys = ones ((u.map (lowL x)).take j) ∧ Same H H') ⟨none, rfl, rfl, Same.refl _⟩ (fun j ys σ H' hj ⟨_, _, e, _⟩ => by rw [e, ones_length, List.length_take]; omega) (by omega) (fun j ys σ H' hj _ => ?_) (fun ys σ H' _ => ?_) ?_ ?_
    · show j < (toS u).cps.size; rw [toS_size]; exact hj
    · show _ = (toS u).cps.size; rw [toS_size]
    · rintro j ys σ H1 z H2 N' hj ⟨v, rfl, rfl, s1⟩ ⟨rfl, c, hc, rfl⟩ hN
      obtain ⟨y, hy, e⟩ := sign_at hc
      refine ⟨_, rfl, _, rfl, x, y, by rw [e]; rfl, hne y (List.mem_of_getElem? hy), fun H3 s3 => hN _ _ _ ⟨_, rfl, ?_, s1.trans s3⟩⟩
      have hy2 : (u.map (lowL x))[j]? = some (lowL x y) := by rw [List.getElem?_map, hy]; rfl
      rw [take_snoc hy2, ← ones_snoc]
    · rintro ys σ H1 l ⟨v, rfl, rfl, s1⟩ hl
      rw [List.take_of_length_le (by rw [List.length_map]; exact Nat.le_refl _)]
      refine ⟨_, l, (u.map (lowL x)).map fun x => toS [x], rfl, rfl, SqL.of (by rw [upd_same, ones_str]), join_room _ (by rw [List.length_map]; omega), ?_⟩
      rw [join_ones]
      exact k _ (s1.then hl)
end
end Kx
set_option Elab.async false
set_option linter.all false
set_option maxRecDepth 100000
set_option maxHeartbeats 0
namespace Kx
open PySem PySem.Spec PyProof.Rows L2 Wd
@[irreducible] def sml (m : Int) : List L := ([0, 1, 2, 3, 4, 5] : List L).take m.toNat
theorem slice_sml {m : Int} (h : 1 ≤ m) : Txt.slice ("abcdef" : Str) none (some m) = toS (sml m) := by
  rw [← small, slice_toS, cut_to _ (by omega)]
  unfold sml
  rfl
theorem sml_length {m : Int} : (sml m).length ≤ 6 := by
  unfold sml
  rw [List.length_take]
  exact Nat.min_le_right _ _
theorem sml_get {k x : Nat} (hk : k ≤ 6) (hx : x < k) : (sml (k : Int))[x]? = some (lt6 x) := by
  have q : ∀ x : Fin 6, ([0, 1, 2, 3, 4, 5] : List L)[x.val]? = some (lt6 x.val) := by decide
  unfold sml
  rw [List.getElem?_take_of_lt (by omega)]
  exact q ⟨x, by omega⟩
theorem sml_len {k : Nat} (hk : k ≤ 6) : (sml (k : Int)).length = k := by
  unfold sml
  rw [List.length_take]
  show min _ 6 = k
  omega
noncomputable def spLet0 : Sp := fun vs H Q _ => ∃ (z : Str) (k : Nat), vs = [.str z] ∧ z.length / 2 = k ∧ 1 ≤ k ∧ k ≤ 6 ∧ Q (tx (sml (k : Int))) H
noncomputable def spSurf (K : PySem.W.Frag) : Sp := fun vs H Q _ => ∃ x, vs = [x] ∧ Th K H x ∧ ∀ H', Same H H' → Q (.bl (surfV x)) H'
theorem lets_sml {k : Nat} (hk : k ≤ 6) : sml (k : Int) = (List.range k).map lt6 := by
  apply List.ext_getElem?
  intro i
  by_cases hi : i < k
  · rw [sml_get hk hi, List.getElem?_map, List.getElem?_range hi]
    rfl
  · rw [List.getElem?_eq_none (by rw [sml_len hk]; omega), List.getElem?_eq_none (by simp; omega)]
section
variable {P : Program} {w : World} {K : PySem.W.Frag} {mg : Str → Option Value} {base : Heap} {aB : Addr}
noncomputable abbrev s_let : Stmt := top 17
theorem sc_let : FnScope ["surface"] ["surface"] (defScope s_let) := ⟨rfl, rfl, rfl, by decide +kernel, rfl, by decide +kernel, by decide +kernel⟩
theorem c_let (D : Df K mg "letters_of" s_let) (T : Bt K w mg aB) (S : ∃ t, mg "SMALL" = some (.str "abcdef" t)) : Fnc P w K mg base "letters_of" ["surface"] 1 spLet0 := by
  have sc := sc_let
  refine D.ok sc (fun _ _ _ _ _ _ us hl => by obtain ⟨_, rfl⟩ := len1 hl; rfl) (fun vs H Q E h => ?_) (fun f cdv A outer s H vs Q E hr h => ?_)
  · obtain ⟨z, k, rfl, _⟩ := h
    rfl
  · obtain ⟨z, k, rfl, hl, h1, h6, q⟩ := h
    obtain ⟨tS, mgS⟩ := S
    have l16 := line16
    refine ⟨_, (@pss_one _ _ _ (@ps_ret _ _ _ _ (@pe_slice _ _ _ _ _ _ _ _ _ _ sl_str (@pe_glob _ _ (.str "abcdef") _ _ rfl mgS ⟨_, rfl⟩ (by decide)) po_none (@po_some _ _ _ (@pe_op _ _ _ _ _ _ _ _ op_fdiv (@pe_callB _ _ _ _ _ _ _ _ _ call_len_str (by rfl) T.len PySem.boot_len (@pa_cons _ _ _ _ _ (pv 0) pa_nil (by rfl)) (by decide) (by decide) (by rfl) (by rfl)) pe_int))))), ?_⟩
    refine ⟨_, rfl, _, rfl, (by omega), _, _, rfl, rfl, ⟨by decide, by decide⟩, _, rfl, _, rfl, (by rw [len_sm]; omega), ?_⟩
    have e : (z.length : Int) / 2 = (k : Int) := by omega
    rw [e, slice_sml (by omega)]
    exact q
end
section
variable {P : Program} {w : World} {K : PySem.W.Frag} {mg : Str → Option Value} {base : Heap} {aB : Addr}
noncomputable abbrev s_issurf : Stmt := top 16
theorem sc_issurf : FnScope ["thing", "letters"] ["thing"] (defScope s_issurf) := ⟨rfl, rfl, rfl, by decide +kernel, rfl, by decide +kernel, by decide +kernel⟩
theorem c_issurf (D : Df K mg "is_surface" s_issurf) (T : Bt K w mg aB) (M : ∃ t, mg "MOST_ENDS" = some (.int 12 t)) (F_let : Fnc P w K mg base "letters_of" ["surface"] 1 spLet0) (F_back : Fnc P w K mg base "back" ["word"] 1 spBk) : Fnc P w K mg base "is_surface" ["thing"] 2 (spSurf K) := by
  have sc := sc_issurf
  refine D.ok sc (fun _ _ _ _ _ _ us hl => by obtain ⟨_, rfl⟩ := len1 hl; rfl) (fun vs H Q E h => ?_) (fun f cdv A outer s H vs Q E hr h => ?_)
  · obtain ⟨x, rfl, _⟩ := h
    rfl
  · obtain ⟨x, rfl, hx, k⟩ := h
    have l16 := line16
    obtain ⟨tE, mgE⟩ := M
    refine ⟨_, (@pss_cons _ _ _ _ _ (@ps_if _ _ _ _ _ _ _ _ (@PW.pt _ _ _ (@pw_or _ _ _ _ _ _ _ (@pt_not _ _ _ _ (@pt_truth _ _ _ (@pe_callB _ _ _ _ _ _ _ _ _ (@call_isK _ (K) rfl) (by rfl) T.isinstance b_isinstance (@pa_cons _ _ _ _ _ (pv 0) (@pa_cons _ _ _ _ _ (@pe_bltn _ _ (.ty "str") _ _ rfl T.str b_str rfl (by decide) (by decide)) pa_nil (by rfl)) (by rfl)) (by decide) (by decide) (by rfl) (by rfl)) (fun _ => rfl))) (@pw_or1 _ _ _ _ (@pt_not _ _ _ _ (@pt_chain _ _ _ _ _ _ _ _ _ _ _ _ op_le op_le pe_int (@pe_callB _ _ _ _ _ _ _ _ _ call_len_str (by rfl) T.len PySem.boot_len (@pa_cons _ _ _ _ _ (pv 0) pa_nil (by rfl)) (by decide) (by decide) (by rfl) (by rfl)) (@pe_glob _ _ (.int 12) _ _ rfl mgE ⟨_, rfl⟩ (by decide)) (by with_unfolding_all rfl)))))) (@pss_one _ _ _ (@ps_ret _ _ _ _ pe_bl)) pss_nil) (@pss_cons _ _ _ _ _ (@ps_set _ _ (1) _ _ _ _ sc.nd rfl (Or.inl rfl) (@pe_fn _ _ _ _ _ _ _ _ _ _ _ F_let hr (by decide) rfl (@pa_cons _ _ _ _ _ (pv 0) pa_nil (by rfl)) (by decide) (by rfl) (by rfl)) (by rfl) (by first | exact .inl rfl | exact .inr rfl | assumption)) (@pss_one _ _ _ (@ps_ret _ _ _ _ (@pe_cmpR _ _ _ _ _ _ _ _ (@op_eq_ls _ (by exact hr.units)) (@pe_callB _ _ _ _ _ _ _ _ _ (@call_sorted_text _ rfl) (by rfl) T.sorted b_sorted (@pa_cons _ _ _ _ _ (pv 0) pa_nil (by rfl)) (by decide) (by decide) (by rfl) (by rfl)) (@pe_callB _ _ _ _ _ _ _ _ _ (@call_sorted_text _ rfl) (by rfl) T.sorted b_sorted (@pa_cons _ _ _ _ _ (@pe_op _ _ _ _ _ _ _ _ op_add_str (pv 1) (@pe_fn _ _ _ _ _ _ _ _ _ _ _ F_back hr (by decide) rfl (@pa_cons _ _ _ _ _ (pv 1) pa_nil (by rfl)) (by decide) (by rfl) (by rfl))) pa_nil (by rfl)) (by decide) (by decide) (by rfl) (by rfl)) (nomark _)))))), ?_⟩
    cases hx with
    | oth ty e ns =>
      rw [surfV_oth ns] at k
      exact ⟨_, rfl, _, _, _, _, rfl, ty, e, false, rfl, orkT (ifsT (k _ (Same.refl _)))⟩
    | str z hz =>
      have hzl : z.length ≤ sizeLine := by omega
      have k : ∀ H', Same H H' → Q (.bl (surfB z)) H' := k
      unfold surfB at k
      refine ⟨_, rfl, _, _, _, _, rfl, .str z, kit_str, true, rfl, orkF ?_⟩
      refine ⟨_, rfl, z, rfl, hzl, _, _, rfl, rfl, _, rfl, ?_⟩
      by_cases h1 : 2 ≤ z.length
      · rw [decide_eq_true h1, Bool.true_and] at k
        refine iteC (decide_eq_true (by omega)) ⟨_, _, rfl, rfl, _, rfl, ?_⟩
        by_cases h2 : z.length ≤ 12
        · rw [decide_eq_true h2, Bool.true_and] at k
          refine iteD (by rw [decide_eq_true (by omega)]; rfl) ?_
          refine ⟨_, rfl, z, z.length / 2, rfl, rfl, by omega, by omega, ?_⟩
          have hk6 : z.length / 2 ≤ 6 := by omega
          have hsl := sml_len hk6
          refine ⟨_, rfl, z, rfl, by omega, fun p1 zs1 hp1 pm1 st1 => ?_⟩
          refine ⟨_, rfl, _, rfl, sml ((z.length / 2 : Nat) : Int), rfl, by omega, fun H1 s1 => ⟨_, _, rfl, rfl, (by rw [toS_length, toS_length, bk_length]; omega), ?_⟩⟩
          rw [toS_append]
          refine ⟨_, rfl, (by rw [toS_length, List.length_append, bk_length]; omega), fun p2 zs2 hp2 pm2 st2 => ?_⟩
          have f1 := s1 _ _ (upd_same (H := H) (a := p1) (o := .lst (zs1.map V.str)))
          refine ⟨p1, p2, zs1, zs2, rfl, rfl, (Same.new hp2) _ _ f1, upd_same, ?_⟩
          have e : decide (zs1 = zs2) = decide (z.cps.toList.Perm ((ends (z.length / 2)).map cp)) := by
            have pe : (signsT z).Perm (signsT (toS (sml ((z.length / 2 : Nat) : Int) ++ bk (sml ((z.length / 2 : Nat) : Int))))) ↔ z.cps.toList.Perm ((ends (z.length / 2)).map cp) := by
              rw [signs_perm, toS_cps, lets_sml hk6]
              rfl
            rw [Bool.eq_iff_iff, decide_eq_true_iff, decide_eq_true_iff, ← pe]
            constructor
            · intro e
              exact pm1.symm.trans (e ▸ pm2)
            · intro pm
              exact sorted_one st1 st2 (pm1.trans (pm.trans pm2.symm))
          rw [e]
          exact k _ (((Same.new hp1).trans s1).then hp2)
        · rw [decide_eq_false h2, Bool.false_and] at k
          exact iteC (by rw [decide_eq_false (by omega)]; rfl) (k _ (Same.refl _))
      · rw [decide_eq_false h1, Bool.false_and, Bool.false_and] at k
        exact iteD (decide_eq_false (by omega)) ⟨_, rfl, ifsT (k _ (Same.refl _))⟩
end
end Kx
set_option Elab.async false
set_option linter.all false
set_option maxRecDepth 100000
set_option maxHeartbeats 0
namespace Kx
open PySem PySem.Spec PyProof.Rows L2 Wd
theorem erase_perm {α : Type} : ∀ {xs : List α} {k : Nat} {x : α}, xs[k]? = some x → xs.Perm (x :: xs.eraseIdx k)
  | [], k, x, h => by simp at h
  | y :: r, 0, x, h => by simp at h; subst h; exact List.Perm.refl _
  | y :: r, k + 1, x, h => by
    have := erase_perm (xs := r) (k := k) (x := x) (by simpa using h)
    exact (List.Perm.cons y this).trans (List.Perm.swap _ _ _)
theorem fd_upd5 {H : Hp} {d l : Addr} {z : Str} {o : HO} {xs : List V} (F : Fd H d) (h : H l = some (.lst xs)) (n : l ≠ d) (hx : V.str z ∈ xs) : Fd (L2.upd H l o) d := by
  obtain ⟨c, i, ll, t, ns, h1, h2, h3, h4⟩ := F.ex
  have hc : c ≠ l := fun e => by
    subst e
    rw [h2] at h
    have h := HO.lst.inj (Option.some.inj h)
    rw [← h] at hx
    obtain ⟨k, _, e⟩ := List.mem_map.mp hx
    cases e
  exact ⟨c, i, ll, t, ns, by rw [upd_ne (fun e => n e.symm)]; exact h1, by rw [upd_ne hc]; exact h2, h3, h4⟩
theorem signs_ones (W : List L) : L2.signs (toS W) = ones W := by
  unfold L2.signs ones
  rw [toS_cps, List.map_map]
  rfl
theorem map_erase {α β : Type} (g : α → β) : ∀ (xs : List α) (k : Nat), (xs.map g).eraseIdx k = (xs.eraseIdx k).map g
  | [], k => by simp
  | x :: r, 0 => by simp
  | x :: r, k + 1 => by
    rw [List.map_cons, List.eraseIdx_cons_succ, List.eraseIdx_cons_succ, List.map_cons, map_erase g r k]
theorem ones_erase (W : List L) (k : Nat) : (ones W).eraseIdx k = ones (W.eraseIdx k) := map_erase _ W k
section
variable {P : Program} {w : World} {K : PySem.W.Frag} {mg : Str → Option Value} {base : Heap} {aB : Addr}
noncomputable abbrev s_surf : Stmt := top 27
theorem sc_surf : FnScope ["_law_feed_here", "_law_many", "_law_left", "_law_found", "_law_k"] ["_law_feed_here", "_law_many"] (defScope s_surf) := ⟨rfl, rfl, rfl, by decide +kernel, rfl, by decide +kernel, by decide +kernel⟩
theorem c_surf (D : Df K mg "_law_surface" s_surf) (T : Bt K w mg aB) (F_draw : Fnc P w K mg base "_law_draw" ["_law_feed_here", "_law_many"] 1 spDraw) : Fnc P w K mg base "_law_surface" ["_law_feed_here", "_law_many"] 2 spSurfD := by
  have sc := sc_surf
  refine D.ok sc (fun _ _ _ _ _ _ us hl => by obtain ⟨_, _, rfl⟩ := len2 hl; rfl) (fun vs H Q E h => ?_) (fun f cdv A outer s H vs Q E hr h => ?_)
  · obtain ⟨d, n, rfl, _⟩ := h
    rfl
  · obtain ⟨d, n, rfl, F, h1, h6, k⟩ := h
    have l16 := line16
    refine ⟨_, (@pss_cons _ _ _ _ _ (@ps_set _ _ (2) _ _ _ _ sc.nd rfl (Or.inl rfl) (@pe_callTy _ _ _ _ _ _ _ _ _ (@call_list_signs _ rfl) (by rfl) T.list b_list (@pa_cons _ _ _ _ _ (@pe_op _ _ _ _ _ _ _ _ op_add_str (@pe_slice _ _ _ _ _ _ _ _ _ _ sl_str pe_str po_none (@po_some _ _ _ (pv 1))) (@pe_slice _ _ _ _ _ _ _ _ _ _ sl_str pe_str po_none (@po_some _ _ _ (pv 1)))) pa_nil (by rfl)) (by decide) (by decide) (by rfl) (by rfl)) (by rfl) (by first | exact .inl rfl | exact .inr rfl | assumption)) (@pss_cons _ _ _ _ _ (@ps_set _ _ (3) _ _ _ _ sc.nd rfl (Or.inl rfl) pe_str (by rfl) (by first | exact .inl rfl | exact .inr rfl | assumption)) (@pss_cons _ _ _ _ _ (@ps_for _ _ _ _ _ _ _ _ PassesOwn.never rfl (@pi_range1 _ _ _ _ _ _ rfl T.range (@pa_cons _ _ _ _ _ (@pe_op _ _ _ _ _ _ _ _ op_mul pe_int (pv 1)) pa_nil (by rfl)) (by rfl)) (@pg_name _ _ (4) _ sc.nd rfl (Or.inl rfl) (by first | exact .inl rfl | exact .inr rfl | assumption)) (@pss_one _ _ _ (@ps_set _ _ (3) _ _ _ _ sc.nd rfl (Or.inl rfl) (@pe_op _ _ _ _ _ _ _ _ op_add_str (pv 3) (@pe_bm _ _ _ _ _ _ _ _ _ _ _ _ PySem.F.plainAttrs_list PySem.F.slot_list_pop PySem.F.type_list_pop mt_popAt (pv 2) (@pa_cons _ _ _ _ _ (@pe_fn _ _ _ _ _ _ _ _ _ _ _ F_draw hr (by decide) rfl (@pa_cons _ _ _ _ _ (pv 0) (@pa_cons _ _ _ _ _ (@pe_callB _ _ _ _ _ _ _ _ _ call_len_seq (by rfl) T.len PySem.boot_len (@pa_cons _ _ _ _ _ (pv 2) pa_nil (by rfl)) (by decide) (by decide) (by rfl) (by rfl)) pa_nil (by rfl)) (by rfl)) (by decide) (by rfl) (by rfl)) pa_nil (by rfl)) (by rfl) (by rfl) (by rfl) (by rfl) (by rfl))) (by rfl) (by first | exact .inl rfl | exact .inr rfl | assumption))) (by intro _ ; rfl)) (@pss_one _ _ _ (@ps_ret _ _ _ _ (pv 3)))))), ?_⟩
    refine ⟨_, rfl, _, rfl, _, rfl, (by rw [len_sm]; omega), _, rfl, _, rfl, _, rfl, (by rw [len_bg]; omega), _, _, rfl, rfl, ?_, ?_⟩
    · have q1 := Txt.slice_le ("abcdef" : Str) none (some (n : Int))
      have q2 := Txt.slice_le ("ABCDEF" : Str) none (some (n : Int))
      rw [len_sm] at q1
      rw [len_bg] at q2
      omega
    rw [slice_sg (by omega)]
    have hsl : (sg (n : Int)).length = 2 * n := by rw [sg_length (by omega) (by omega)]; omega
    refine ⟨_, rfl, (by rw [toS_length, hsl]; omega), fun l hl => ?_⟩
    rw [signs_ones]
    have nl := F.ne hl
    refine ⟨_, rfl, _, _, rfl, rfl, (Or.inl ⟨by decide, by decide⟩), ?_⟩
    refine ⟨_, rfl, by omega, by omega, ?_⟩
    rw [show ((2 : Int) * (n : Int)).toNat = 2 * n by omega]
    refine for_range (lo := 0) (n := 2 * n) (fun i σ H' => ∃ (v : Option V) (W left : List L), σ = [some (.ref d), some (.int (n : Int)), some (.ref l), some (tx W), v] ∧ H' l = some (.lst (ones left)) ∧ (W ++ left).Perm (sg (n : Int)) ∧ W.length = i ∧ Fd H' d ∧ SameB d H H') ⟨none, [], sg (n : Int), (by rw [tx_nil]; rfl), upd_same, List.Perm.refl _, rfl, F.new hl, (Same.new hl).b⟩ ?_ ?_
    · rintro i σ H1 hi ⟨v, W, left, rfl, f1, pW, hW, F1, sb1⟩
      have hll : left.length = 2 * n - i := by
        have := pW.length_eq
        rw [List.length_append, hW, hsl] at this
        omega
      refine ⟨_, rfl, _, rfl, .inl ⟨rfl, _, SqL.of f1⟩, _, rfl, _, rfl, l, _, rfl, .inl (SqL.of f1), d, _, rfl, F1, by rw [ones_length]; omega, by rw [ones_length]; omega, fun r H2 r0 r1 F2 sb2 => ?_⟩
      rw [ones_length] at r1
      have f2 := sb2 _ _ nl f1
      have hrk : r.toNat < left.length := by omega
      have gy : left[r.toNat]? = some left[r.toNat] := List.getElem?_eq_getElem hrk
      generalize left[r.toNat] = y at gy
      refine ⟨l, _, r, r.toNat, tx [y], rfl, rfl, f2, by omega, by omega, (ixN_seq (by unfold ixN; rw [if_pos r0, if_pos (by rw [ones_length]; omega)])).1, (by unfold ones; rw [List.getElem?_map, gy]; rfl), ?_⟩
      rw [ones_erase]
      refine ⟨_, _, rfl, rfl, (by rw [toS_length, toS_length]; show _ + 1 ≤ _; omega), ?_⟩
      rw [toS_append]
      have hy : V.str (toS [y]) ∈ ones left := by
        unfold ones
        exact List.mem_map.mpr ⟨y, List.mem_of_getElem? gy, rfl⟩
      refine ⟨_, W ++ [y], left.eraseIdx r.toNat, rfl, upd_same, ?_, by rw [List.length_append, hW]; rfl, fd_upd5 F2 f2 nl hy, fun b o n' e => ?_⟩
      · refine List.Perm.trans ?_ pW
        rw [List.append_assoc]
        exact List.Perm.append_left W (erase_perm gy).symm
      · rw [upd_ne (ne_of_none e hl)]
        exact sb2 _ _ n' (sb1 _ _ n' e)
    · rintro σ H1 ⟨v, W, left, rfl, f1, pW, hW, F1, sb1⟩
      have hll : left.length = 0 := by
        have := pW.length_eq
        rw [List.length_append, hW, hsl] at this
        omega
      have : left = [] := List.eq_nil_of_length_eq_zero hll
      subst this
      rw [List.append_nil] at pW
      have pW' : W.Perm (([0, 1, 2, 3, 4, 5] : List L).take n ++ ([6, 7, 8, 9, 10, 11] : List L).take n) := by
        unfold sg at pW
        rwa [Int.toNat_natCast] at pW
      refine ⟨_, rfl, k W _ (row_perm h1 h6 pW') (fun x hx => pW'.mem_iff.mpr (sg_all h6 hx)) F1 sb1⟩
end
end Kx
set_option Elab.async false
set_option linter.all false
set_option maxRecDepth 100000
set_option maxHeartbeats 0
namespace Kx
open PySem PySem.Spec PyProof.Rows L2 Wd
section
variable {P : Program} {w : World} {K : PySem.W.Frag} {mg : Str → Option Value} {base : Heap} {aB : Addr}
noncomputable abbrev s_put : Stmt := top 23
theorem sc_put : FnScope ["row", "place", "sign"] ["row", "place", "sign"] (defScope s_put) := ⟨rfl, rfl, rfl, by decide +kernel, rfl, by decide +kernel, by decide +kernel⟩
theorem c_put (D : Df K mg "put_in" s_put) : Fnc P w K mg base "put_in" ["row", "place", "sign"] 1 spPutIn := by
  have sc := sc_put
  refine D.ok sc (fun _ _ _ _ _ _ us hl => by obtain ⟨_, _, _, rfl⟩ := len3 hl; rfl) (fun vs H Q E h => ?_) (fun f cdv A outer s H vs Q E hr h => ?_)
  · obtain ⟨u, p, v, rfl, _⟩ := h
    rfl
  · obtain ⟨u, p, v, rfl, hp, hu, hv, k⟩ := h
    have l16 := line16
    have e1 : Txt.slice (toS u) none (some (p : Int)) = toS (u.take p) := by rw [slice_toS, cut_to _ (by omega), Int.toNat_natCast]
    have e2 : Txt.slice (toS u) (some (p : Int)) none = toS (u.drop p) := by rw [slice_toS, cut_from _ (by omega), Int.toNat_natCast]
    have lu := toS_length u
    refine ⟨_, (@pss_one _ _ _ (@ps_ret _ _ _ _ (@pe_op _ _ _ _ _ _ _ _ op_add_str (@pe_op _ _ _ _ _ _ _ _ op_add_str (@pe_slice _ _ _ _ _ _ _ _ _ _ sl_str (pv 0) po_none (@po_some _ _ _ (pv 1))) (pv 2)) (@pe_slice _ _ _ _ _ _ _ _ _ _ sl_str (pv 0) (@po_some _ _ _ (pv 1)) po_none)))), ?_⟩
    refine ⟨_, rfl, _, rfl, _, rfl, _, rfl, by omega, ?_⟩
    rw [e1]
    refine ⟨_, rfl, _, _, rfl, rfl, (by rw [toS_length, toS_length, List.length_take]; omega), ?_⟩
    rw [toS_append]
    refine ⟨_, rfl, _, rfl, _, rfl, _, rfl, by omega, ?_⟩
    rw [e2]
    refine ⟨_, _, rfl, rfl, (by rw [toS_length, toS_length, List.length_append, List.length_take, List.length_drop]; omega), ?_⟩
    rw [toS_append]
    exact k _ (Same.refl _)
noncomputable abbrev s_glued : Stmt := top 22
theorem sc_glued : FnScope ["surface", "place", "other", "letter"] ["surface", "place", "other"] (defScope s_glued) := ⟨rfl, rfl, rfl, by decide +kernel, rfl, by decide +kernel, by decide +kernel⟩
theorem c_glued {CB CS : Addr} (D : Df K mg "glued" s_glued) (T : Bt K w mg aB) (S : ∃ t, mg "SMALL" = some (.str "abcdef" t)) (ME : ∃ t, mg "MOST_ENDS" = some (.int 12 t)) (M_band : XMk P w K mg base "NoBand" CB ["letter"] 1) (M_slide : XMk P w K mg base "NoSlide" CS ["place"] 1) (F_put : Fnc P w K mg base "put_in" ["row", "place", "sign"] 1 spPutIn) (F_back : Fnc P w K mg base "back" ["word"] 1 spBk) : FncX P w K mg base "glued" ["surface", "place", "other"] 3 (spGlued CB CS) := by
  have sc := sc_glued
  refine D.okX sc (fun _ _ _ _ _ _ us hl => by obtain ⟨_, _, _, rfl⟩ := len3 hl; rfl) (fun vs H Q E h => ?_) (fun f cdv A outer s H vs Q E hr h => ?_)
  · obtain ⟨u, p, q, rfl, _⟩ := h
    rfl
  · obtain ⟨u, p, q, rfl, u2, u12, kT, kB, kS⟩ := h
    obtain ⟨tS, mgS⟩ := S
    obtain ⟨tE, mgE⟩ := ME
    have l16 := line16
    have lu := toS_length u
    refine ⟨_, (@pss_cons _ _ _ _ _ (@ps_if _ _ _ _ _ _ _ _ (@pt_cmpR _ _ _ _ _ _ _ _ op_eq (@pe_callB _ _ _ _ _ _ _ _ _ call_len_str (by rfl) T.len PySem.boot_len (@pa_cons _ _ _ _ _ (pv 0) pa_nil (by rfl)) (by decide) (by decide) (by rfl) (by rfl)) (@pe_glob _ _ (.int 12) _ _ rfl mgE ⟨_, rfl⟩ (by decide)) (nomark _)) (@pss_one _ _ _ (@ps_raiseX _ _ _ _ _ raises_def rfl (@pe_mk _ _ _ _ _ _ _ _ _ _ _ M_band hr (by decide) rfl (@pa_cons _ _ _ _ _ pe_str pa_nil (by rfl)) (by decide) (by rfl) (by rfl)))) pss_nil) (@pss_cons _ _ _ _ _ (@ps_if _ _ _ _ _ _ _ _ (@pt_not _ _ _ _ (@pt_chain _ _ _ _ _ _ _ _ _ _ _ _ op_le op_le pe_int (pv 1) (@pe_callB _ _ _ _ _ _ _ _ _ call_len_str (by rfl) T.len PySem.boot_len (@pa_cons _ _ _ _ _ (pv 0) pa_nil (by rfl)) (by decide) (by decide) (by rfl) (by rfl)) (by with_unfolding_all rfl))) (@pss_one _ _ _ (@ps_raiseX _ _ _ _ _ raises_def rfl (@pe_mk _ _ _ _ _ _ _ _ _ _ _ M_slide hr (by decide) rfl (@pa_cons _ _ _ _ _ pe_int pa_nil (by rfl)) (by decide) (by rfl) (by rfl)))) pss_nil) (@pss_cons _ _ _ _ _ (@ps_if _ _ _ _ _ _ _ _ (@pt_not _ _ _ _ (@pt_chain _ _ _ _ _ _ _ _ _ _ _ _ op_le op_le pe_int (pv 2) (@pe_op _ _ _ _ _ _ _ _ op_add (@pe_callB _ _ _ _ _ _ _ _ _ call_len_str (by rfl) T.len PySem.boot_len (@pa_cons _ _ _ _ _ (pv 0) pa_nil (by rfl)) (by decide) (by decide) (by rfl) (by rfl)) pe_int) (by with_unfolding_all rfl))) (@pss_one _ _ _ (@ps_raiseX _ _ _ _ _ raises_def rfl (@pe_mk _ _ _ _ _ _ _ _ _ _ _ M_slide hr (by decide) rfl (@pa_cons _ _ _ _ _ pe_int pa_nil (by rfl)) (by decide) (by rfl) (by rfl)))) pss_nil) (@pss_cons _ _ _ _ _ (@ps_set _ _ (3) _ _ _ _ sc.nd rfl (Or.inl rfl) (@pe_ix _ _ _ _ _ _ _ ix_str (@pe_glob _ _ (.str "abcdef") _ _ rfl mgS ⟨_, rfl⟩ (by decide)) (@pe_op _ _ _ _ _ _ _ _ op_fdiv (@pe_callB _ _ _ _ _ _ _ _ _ call_len_str (by rfl) T.len PySem.boot_len (@pa_cons _ _ _ _ _ (pv 0) pa_nil (by rfl)) (by decide) (by decide) (by rfl) (by rfl)) pe_int) (fun _ _ => rfl)) (by rfl) (by first | exact .inl rfl | exact .inr rfl | assumption)) (@pss_one _ _ _ (@ps_ret _ _ _ _ (@pe_fn _ _ _ _ _ _ _ _ _ _ _ F_put hr (by decide) rfl (@pa_cons _ _ _ _ _ (@pe_fn _ _ _ _ _ _ _ _ _ _ _ F_put hr (by decide) rfl (@pa_cons _ _ _ _ _ (pv 0) (@pa_cons _ _ _ _ _ (pv 1) (@pa_cons _ _ _ _ _ (pv 3) pa_nil (by rfl)) (by rfl)) (by rfl)) (by decide) (by rfl) (by rfl)) (@pa_cons _ _ _ _ _ (pv 2) (@pa_cons _ _ _ _ _ (@pe_fn _ _ _ _ _ _ _ _ _ _ _ F_back hr (by decide) rfl (@pa_cons _ _ _ _ _ (pv 3) pa_nil (by rfl)) (by decide) (by rfl) (by rfl)) pa_nil (by rfl)) (by rfl)) (by rfl)) (by decide) (by rfl) (by rfl)))))))), ?_⟩
    refine ⟨_, rfl, toS u, rfl, by omega, rfl, _, rfl, ?_⟩
    have e2 : decide (V.int ((toS u).length : Int) = V.int 12) = decide (u.length = 12) := by
      rw [lu]
      by_cases h : u.length = 12
      · rw [decide_eq_true h, h]; rfl
      · rw [decide_eq_false h]; exact decide_eq_false fun q => h (by have := V.int.inj q; omega)
    rw [e2]
    by_cases h12 : u.length = 12
    · rw [decide_eq_true h12]
      refine ifsT ?_
      exact ⟨rfl, by decide, fun b dx hb hd ne => ⟨b, CB, some dx, true, rfl, by rw [upd_ne ne.symm, upd_same], M_band.ca.1, kB (glu_band h12) b _ (new_x1 hb hd ne) (new_sameS hb hd)⟩⟩
    rw [decide_eq_false h12]
    refine ifsF ?_
    have raise : ∀ (kk : Nat) (hk : glu u p q = .slide kk), sRaise (cxOf (CXe P w) P w K mg base ["surface", "place", "other", "letter"] (Str.ofString "glued") (defScope s_glued) f cdv A outer s H E).K (tNewX CS [Str.ofString "place"] (tCons (tC (V.int (kk : Nat))) tNil)) E { nx := fun _ H' => Q .non H', rt := Q } (start ["surface", "place", "other", "letter"] [tx u, .int p, .int q]) H := fun kk hk =>
      ⟨rfl, by decide, fun b dx hb hd ne => ⟨b, CS, some dx, true, rfl, by rw [upd_ne ne.symm, upd_same], M_slide.ca.1, kS kk hk b _ (new_x1 hb hd ne) (new_sameS hb hd)⟩⟩
    refine ⟨_, rfl, _, _, rfl, rfl, _, rfl, ?_⟩
    by_cases hp : 0 ≤ p ∧ p ≤ (u.length : Int)
    rotate_left
    · have hs := raise 0 (glu_s0 h12 hp)
      by_cases hp0 : 0 ≤ p
      · refine iteC (decide_eq_true hp0) ⟨_, rfl, toS u, rfl, by omega, _, _, rfl, rfl, _, rfl, ?_⟩
        rw [decide_eq_false (fun z => hp ⟨hp0, by omega⟩)]
        exact nkF (ifsT hs)
      · rw [decide_eq_false hp0]
        exact ⟨_, rfl, nkF (ifsT hs)⟩
    refine iteC (decide_eq_true hp.1) ⟨_, rfl, toS u, rfl, by omega, _, _, rfl, rfl, _, rfl, ?_⟩
    rw [decide_eq_true (show p ≤ ((toS u).length : Int) by omega)]
    refine nkT (ifsF ?_)
    refine ⟨_, rfl, _, _, rfl, rfl, _, rfl, ?_⟩
    by_cases hq : 0 ≤ q ∧ q ≤ (u.length : Int) + 1
    rotate_left
    · have hs := raise 1 (glu_s1 h12 hp hq)
      by_cases hq0 : 0 ≤ q
      · refine iteC (decide_eq_true hq0) ⟨_, rfl, toS u, rfl, by omega, _, _, rfl, rfl, _, _, rfl, rfl, _, rfl, ?_⟩
        rw [decide_eq_false (fun z => hq ⟨hq0, by omega⟩)]
        exact nkF (ifsT hs)
      · rw [decide_eq_false hq0]
        exact ⟨_, rfl, nkF (ifsT hs)⟩
    refine iteC (decide_eq_true hq.1) ⟨_, rfl, toS u, rfl, by omega, _, _, rfl, rfl, _, _, rfl, rfl, _, rfl, ?_⟩
    rw [decide_eq_true (show q ≤ ((toS u).length : Int) + 1 by omega)]
    refine nkT (ifsF ?_)
    have kT := kT _ (glu_ok h12 hp hq)
    obtain ⟨pn, rfl⟩ := Int.eq_ofNat_of_zero_le hp.1
    obtain ⟨qn, rfl⟩ := Int.eq_ofNat_of_zero_le hq.1
    rw [Int.toNat_natCast, Int.toNat_natCast] at kT
    have hk : u.length / 2 < 6 := by omega
    have e6 : ((toS u).length : Int) / 2 = ((u.length / 2 : Nat) : Int) := by omega
    refine ⟨_, rfl, toS u, rfl, by omega, _, _, rfl, rfl, ⟨by decide, by decide⟩, ?_⟩
    rw [e6]
    refine ⟨_, _, _, rfl, rfl, (by decide +kernel), atI_nat (small71 ⟨u.length / 2, hk⟩), ?_⟩
    refine ⟨_, rfl, _, rfl, _, rfl, u, pn, [lt6 (u.length / 2)], rfl, by omega, by omega, (by show 1 ≤ 4; decide), fun H1 s1 => ?_⟩
    refine ⟨_, rfl, _, rfl, [lt6 (u.length / 2)], rfl, (by show 1 ≤ 5000; decide), fun H2 s2 => ?_⟩
    rw [bk_one]
    have hl : (u.take pn ++ [lt6 (u.length / 2)] ++ u.drop pn).length = u.length + 1 := by
      rw [List.length_append, List.length_append, List.length_take, List.length_drop, List.length_singleton]
      omega
    refine ⟨_, qn, [inv (lt6 (u.length / 2))], rfl, by omega, by omega, (by show 1 ≤ 4; decide), fun H3 s3 => ?_⟩
    exact kT H3 (s1.trans (s2.trans s3))
end
end Kx
set_option Elab.async false
set_option linter.all false
set_option maxRecDepth 100000
set_option maxHeartbeats 0
namespace Kx
open PySem PySem.Spec PyProof.Rows L2 Wd
section
variable {P : Program} {w : World} {K : PySem.W.Frag} {mg : Str → Option Value} {base : Heap} {aB : Addr}
noncomputable abbrev s_told : Stmt := top 28
theorem sc_told : FnScope ["_law_row", "_law_place", "_law_other", "_law_found", "e", "_law_others"] ["_law_row", "_law_place", "_law_other"] (defScope s_told) := ⟨rfl, rfl, rfl, by decide +kernel, rfl, by decide +kernel, by decide +kernel⟩
structure TC71 (K : PySem.W.Frag) (mg : Str → Option Value) (CB CS CR : Addr) (bmB bmR : List Value) (c : Nat → Addr) : Prop where
  nB : mg "NoBand" = some (.ref CB)
  nS : mg "NoSlide" = some (.ref CS)
  nR : mg "RingError" = some (.ref CR)
  nV : mg "ValueError" = none
  n0 : mg "NoRow" = some (.ref (c 0))
  n1 : mg "NoPaper" = some (.ref (c 1))
  n2 : mg "NoStep" = some (.ref (c 2))
  n3 : mg "NoSurface" = some (.ref (c 3))
  n4 : mg "NoWay" = some (.ref (c 4))
  xB : XCl K CB (.ref CR :: bmB)
  xS : XCl K CS (.ref CR :: bmB)
  b0 : PySem.W.kitOne K (.ref CB) (.ref (c 0)) = some false
  s0 : PySem.W.kitOne K (.ref CS) (.ref (c 0)) = some false
  b1 : PySem.W.kitOne K (.ref CB) (.ref (c 1)) = some false
  s1 : PySem.W.kitOne K (.ref CS) (.ref (c 1)) = some false
  b2 : PySem.W.kitOne K (.ref CB) (.ref (c 2)) = some false
  s2 : PySem.W.kitOne K (.ref CS) (.ref (c 2)) = some false
  b3 : PySem.W.kitOne K (.ref CB) (.ref (c 3)) = some false
  s3 : PySem.W.kitOne K (.ref CS) (.ref (c 3)) = some false
  b4 : PySem.W.kitOne K (.ref CB) (.ref (c 4)) = some false
  s4 : PySem.W.kitOne K (.ref CS) (.ref (c 4)) = some false
  bb : PySem.W.kitOne K (.ref CB) (.ref CB) = some true
  ss : PySem.W.kitOne K (.ref CS) (.ref CS) = some true
  bs : PySem.W.kitOne K (.ref CB) (.ref CS) = some false
  sb : PySem.W.kitOne K (.ref CS) (.ref CB) = some false
  bv : PySem.W.kitOne K (.ref CB) (.type "ValueError") = some true
  sv : PySem.W.kitOne K (.ref CS) (.type "ValueError") = some true
  aB : XCa K CB
  aS : XCa K CS
  pB : PySem.W.findIn K (.ref CB) "letter" = some none
  pS : PySem.W.findIn K (.ref CS) "place" = some none
theorem c_told {CB CS CR : Addr} {bmB bmR : List Value} {c : Nat → Addr} (D : Df K mg "_law_told" s_told) (T : Bt K w mg aB) (C : TC71 K mg CB CS CR bmB bmR c) (xR : XCl K CR bmR) (F_glued : FncX P w K mg base "glued" ["surface", "place", "other"] 3 (spGlued CB CS)) : Fnc P w K mg base "_law_told" ["_law_row", "_law_place", "_law_other"] 4 spTold71 := by
  have sc := sc_told
  have cNoBand := C.nB
  have cNoSlide := C.nS
  have cRingError := C.nR
  have TV := C.nV
  have cNoRow := C.n0
  have cNoPaper := C.n1
  have cNoStep := C.n2
  have cNoSurface := C.n3
  have cNoWay := C.n4
  refine D.ok sc (fun _ _ _ _ _ _ us hl => by obtain ⟨_, _, _, rfl⟩ := len3 hl; rfl) (fun vs H Q E h => ?_) (fun f cdv A outer s H vs Q E hr h => ?_)
  · obtain ⟨u, p, q, rfl, _⟩ := h
    rfl
  · obtain ⟨u, p, q, rfl, u2, u12, k⟩ := h
    have l16 := line16
    refine ⟨_, (@pss_cons _ _ _ _ _ (@ps_set _ _ (3) _ _ _ _ sc.nd rfl (Or.inl rfl) pe_non (by rfl) (by first | exact .inl rfl | exact .inr rfl | assumption)) (@pss_cons _ _ _ _ _ (@ps_try _ _ _ _ (4) _ _ _ _ _ _ _ _ _ rfl rfl sc.nd rfl rfl rfl cRingError xR (fun _ => (@pse_set _ _ _ _ _ _ _ (3) sc.nd rfl (Or.inl rfl) (@pee_pair _ _ _ _ _ _ _ _ pe_str (@pee_fn _ _ _ _ _ _ _ _ _ _ _ _ F_glued hr (by decide) rfl (@pa_cons _ _ _ _ _ (pv 0) (@pa_cons _ _ _ _ _ (pv 1) (@pa_cons _ _ _ _ _ (pv 2) pa_nil (by rfl)) (by rfl)) (by rfl)) (by decide) (by rfl) (by rfl)) (by rfl) (by rfl)) (by rfl) (by first | exact .inl rfl | exact .inr rfl | assumption))) (fun _ => (@pss_cons _ _ _ _ _ (@ps_set _ _ (5) _ _ _ _ sc.nd rfl (Or.inl rfl) (@pe_lst _ _ _ _ (@pa_cons _ _ _ _ _ (@pe_callB _ _ _ _ _ _ _ _ _ (@call_isxK _ (K) rfl) (by rfl) T.isinstance b_isinstance (@pa_cons _ _ _ _ _ (pv 4) (@pa_cons _ _ _ _ _ (@pe_glob _ _ (.ref _) _ _ rfl cNoRow rfl (by decide)) pa_nil (by rfl)) (by rfl)) (by decide) (by decide) (by rfl) (by rfl)) (@pa_cons _ _ _ _ _ (@pe_callB _ _ _ _ _ _ _ _ _ (@call_isxK _ (K) rfl) (by rfl) T.isinstance b_isinstance (@pa_cons _ _ _ _ _ (pv 4) (@pa_cons _ _ _ _ _ (@pe_glob _ _ (.ref _) _ _ rfl cNoPaper rfl (by decide)) pa_nil (by rfl)) (by rfl)) (by decide) (by decide) (by rfl) (by rfl)) (@pa_cons _ _ _ _ _ (@pe_callB _ _ _ _ _ _ _ _ _ (@call_isxK _ (K) rfl) (by rfl) T.isinstance b_isinstance (@pa_cons _ _ _ _ _ (pv 4) (@pa_cons _ _ _ _ _ (@pe_glob _ _ (.ref _) _ _ rfl cNoStep rfl (by decide)) pa_nil (by rfl)) (by rfl)) (by decide) (by decide) (by rfl) (by rfl)) (@pa_cons _ _ _ _ _ (@pe_callB _ _ _ _ _ _ _ _ _ (@call_isxK _ (K) rfl) (by rfl) T.isinstance b_isinstance (@pa_cons _ _ _ _ _ (pv 4) (@pa_cons _ _ _ _ _ (@pe_glob _ _ (.ref _) _ _ rfl cNoSurface rfl (by decide)) pa_nil (by rfl)) (by rfl)) (by decide) (by decide) (by rfl) (by rfl)) pa_nil (by rfl)) (by rfl)) (by rfl)) (by rfl))) (by rfl) (by first | exact .inl rfl | exact .inr rfl | assumption)) (@pss_cons _ _ _ _ _ (@ps_set _ _ (5) _ _ _ _ sc.nd rfl (Or.inl rfl) (@pe_op _ _ _ _ _ _ _ _ op_cat (pv 5) (@pe_lst _ _ _ _ (@pa_cons _ _ _ _ _ (@pe_callB _ _ _ _ _ _ _ _ _ (@call_isxK _ (K) rfl) (by rfl) T.isinstance b_isinstance (@pa_cons _ _ _ _ _ (pv 4) (@pa_cons _ _ _ _ _ (@pe_glob _ _ (.ref _) _ _ rfl cNoWay rfl (by decide)) pa_nil (by rfl)) (by rfl)) (by decide) (by decide) (by rfl) (by rfl)) (@pa_cons _ _ _ _ _ (@pe_not _ _ _ _ (@pe_callB _ _ _ _ _ _ _ _ _ (@call_isxK _ (K) rfl) (by rfl) T.isinstance b_isinstance (@pa_cons _ _ _ _ _ (pv 4) (@pa_cons _ _ _ _ _ (@pe_bltn _ _ (.ty "ValueError") _ _ rfl TV b_ValueError rfl (by decide) (by decide)) pa_nil (by rfl)) (by rfl)) (by decide) (by decide) (by rfl) (by rfl))) pa_nil (by rfl)) (by rfl)))) (by rfl) (by first | exact .inl rfl | exact .inr rfl | assumption)) (@pss_cons _ _ _ _ _ (@ps_set _ _ (3) _ _ _ _ sc.nd rfl (Or.inl rfl) (@pe_tup _ _ _ _ _ (@pa_cons _ _ _ _ _ pe_str (@pa_cons _ _ _ _ _ pe_str pa_nil (by rfl)) (by rfl))) (by rfl) (by first | exact .inl rfl | exact .inr rfl | assumption)) (@pss_cons _ _ _ _ _ (@ps_if _ _ _ _ _ _ _ _ (@PW.pt _ _ _ (@pw_and _ _ _ _ _ _ _ (@pt_bl _ _ _ (@pe_callB _ _ _ _ _ _ _ _ _ (@call_isxK _ (K) rfl) (by rfl) T.isinstance b_isinstance (@pa_cons _ _ _ _ _ (pv 4) (@pa_cons _ _ _ _ _ (@pe_glob _ _ (.ref _) _ _ rfl cNoBand rfl (by decide)) pa_nil (by rfl)) (by rfl)) (by decide) (by decide) (by rfl) (by rfl)) (fun _ => rfl)) (@pw_and _ _ _ _ _ _ _ (@pt_not _ _ _ _ (@pt_bl _ _ _ (@pe_callB _ _ _ _ _ _ _ _ _ (@call_isxK _ (K) rfl) (by rfl) T.isinstance b_isinstance (@pa_cons _ _ _ _ _ (pv 4) (@pa_cons _ _ _ _ _ (@pe_glob _ _ (.ref _) _ _ rfl cNoSlide rfl (by decide)) pa_nil (by rfl)) (by rfl)) (by decide) (by decide) (by rfl) (by rfl)) (fun _ => rfl))) (@pw_and1 _ _ _ _ (@pt_cmpR _ _ _ _ _ _ _ _ (@op_notIn_K _ (K) rfl) pe_bl (pv 5) rfl))))) (@pss_one _ _ _ (@ps_set _ _ (3) _ _ _ _ sc.nd rfl (Or.inl rfl) (@pe_tup _ _ _ _ _ (@pa_cons _ _ _ _ _ pe_str (@pa_cons _ _ _ _ _ (@pe_fxK _ (K) _ _ _ _ rfl (pv 4) rfl) pa_nil (by rfl)) (by rfl))) (by rfl) (by first | exact .inl rfl | exact .inr rfl | assumption))) pss_nil) (@pss_one _ _ _ (@ps_if _ _ _ _ _ _ _ _ (@PW.pt _ _ _ (@pw_and _ _ _ _ _ _ _ (@pt_bl _ _ _ (@pe_callB _ _ _ _ _ _ _ _ _ (@call_isxK _ (K) rfl) (by rfl) T.isinstance b_isinstance (@pa_cons _ _ _ _ _ (pv 4) (@pa_cons _ _ _ _ _ (@pe_glob _ _ (.ref _) _ _ rfl cNoSlide rfl (by decide)) pa_nil (by rfl)) (by rfl)) (by decide) (by decide) (by rfl) (by rfl)) (fun _ => rfl)) (@pw_and _ _ _ _ _ _ _ (@pt_not _ _ _ _ (@pt_bl _ _ _ (@pe_callB _ _ _ _ _ _ _ _ _ (@call_isxK _ (K) rfl) (by rfl) T.isinstance b_isinstance (@pa_cons _ _ _ _ _ (pv 4) (@pa_cons _ _ _ _ _ (@pe_glob _ _ (.ref _) _ _ rfl cNoBand rfl (by decide)) pa_nil (by rfl)) (by rfl)) (by decide) (by decide) (by rfl) (by rfl)) (fun _ => rfl))) (@pw_and1 _ _ _ _ (@pt_cmpR _ _ _ _ _ _ _ _ (@op_notIn_K _ (K) rfl) pe_bl (pv 5) rfl))))) (@pss_one _ _ _ (@ps_set _ _ (3) _ _ _ _ sc.nd rfl (Or.inl rfl) (@pe_tup _ _ _ _ _ (@pa_cons _ _ _ _ _ pe_str (@pa_cons _ _ _ _ _ (@pe_fxK _ (K) _ _ _ _ rfl (pv 4) rfl) pa_nil (by rfl)) (by rfl))) (by rfl) (by first | exact .inl rfl | exact .inr rfl | assumption))) pss_nil))))))) (by decide)) (@pss_one _ _ _ (@ps_ret _ _ _ _ (pv 3))))), ?_⟩
    refine ⟨_, rfl, _, rfl, _, rfl, u, p, q, rfl, u2, u12, fun wd e H' s' => ?_, fun eg b H1 xs s0 => ?_, fun kk eg b H1 xs s0 => ?_⟩
    · rw [e] at k
      exact ⟨(by show 2 ≤ sizeLine; omega), fun t ht => ⟨_, rfl, k t _ upd_same (s'.then ht)⟩⟩
    · obtain ⟨dx, cx, fa, fd⟩ := xs
      rw [eg] at k
      refine ⟨b, CB, some dx, cx, .ref CR :: bmB, rfl, fa, C.xB, by simp, ?_⟩
      refine ⟨_, rfl, b, CB, false, cx, dx, _, _, _, false, rfl, fa, fd, C.aB, (fun u r => r), C.b0, ?_⟩
      refine ⟨_, rfl, b, CB, false, cx, dx, _, _, _, false, rfl, fa, fd, C.aB, (fun u r => r), C.b1, ?_⟩
      refine ⟨_, rfl, b, CB, false, cx, dx, _, _, _, false, rfl, fa, fd, C.aB, (fun u r => r), C.b2, ?_⟩
      refine ⟨_, rfl, b, CB, false, cx, dx, _, _, _, false, rfl, fa, fd, C.aB, (fun u r => r), C.b3, (by show 4 ≤ sizeLine; omega), fun l1 hl1 => ?_⟩
      have s1 : Same H1 (upd H1 l1 (.lst [.bl false, .bl false, .bl false, .bl false])) := Same.new hl1
      have f1 : (upd H1 l1 (.lst [.bl false, .bl false, .bl false, .bl false])) l1 = some (.lst [.bl false, .bl false, .bl false, .bl false]) := upd_same
      generalize upd H1 l1 (.lst [.bl false, .bl false, .bl false, .bl false]) = H2 at s1 f1 ⊢
      have fa2 := s1 _ _ fa
      have fd2 := s1 _ _ fd
      refine ⟨_, rfl, _, rfl, b, CB, false, cx, dx, _, _, _, false, rfl, fa2, fd2, C.aB, (fun u r => r), C.b4, ?_⟩
      refine ⟨_, rfl, b, CB, false, cx, dx, _, _, _, true, rfl, fa2, fd2, C.aB, (fun u r => r), C.bv, ?_⟩
      refine ⟨_, rfl, (by show 2 ≤ sizeLine; omega), fun l2 hl2 => ?_⟩
      have s2 : Same H2 (upd H2 l2 (.lst [.bl false, .bl (!true)])) := Same.new hl2
      have f2 : (upd H2 l2 (.lst [.bl false, .bl (!true)])) l2 = some (.lst [.bl false, .bl (!true)]) := upd_same
      generalize upd H2 l2 (.lst [.bl false, .bl (!true)]) = H3 at s2 f2 ⊢
      refine ⟨l1, l2, _, _, rfl, rfl, s2 _ _ f1, f2, (by show 6 ≤ sizeLine; omega), fun l3 hl3 => ?_⟩
      have s3 : Same H3 (upd H3 l3 (.lst ([.bl false, .bl false, .bl false, .bl false] ++ [.bl false, .bl (!true)]))) := Same.new hl3
      have f3 : (upd H3 l3 (.lst ([.bl false, .bl false, .bl false, .bl false] ++ [.bl false, .bl (!true)]))) l3 = some (.lst [.bl false, .bl false, .bl false, .bl false, .bl false, .bl false]) := upd_same
      generalize upd H3 l3 (.lst ([.bl false, .bl false, .bl false, .bl false] ++ [.bl false, .bl (!true)])) = H4 at s3 f3 ⊢
      refine ⟨(by show 2 ≤ sizeLine; omega), fun t ht => ?_⟩
      have s4 : Same H4 (upd H4 t (.tup [.str "other", .str ""])) := Same.new ht
      generalize upd H4 t (.tup [.str "other", .str ""]) = H5 at s4 ⊢
      have s25 := (s2.trans s3).trans s4
      have fa5 := s25 _ _ fa2
      have fd5 := s25 _ _ fd2
      refine ⟨_, rfl, b, CB, false, cx, dx, _, _, _, true, rfl, fa5, fd5, C.aB, (fun u r => r), C.bb, _, rfl, andkT ?_⟩
      refine ⟨_, rfl, b, CB, false, cx, dx, _, _, _, false, rfl, fa5, fd5, C.aB, (fun u r => r), C.bs, _, rfl, nkF (andkT ?_)⟩
      refine ⟨_, rfl, l3, _, rfl, .inl (SqL.of (s4 _ _ f3)), rfl, rfl, _, rfl, ifsT ?_⟩
      refine ⟨_, rfl, b, CB, false, cx, dx, _, _, rfl, fa5, fd5, C.aB.1, C.pB, rfl, (by show 2 ≤ sizeLine; omega), fun p6 hp6 => ?_⟩
      have s6 := s25.then (o := .tup [.str "band", .str ""]) hp6
      have f6 : (upd H5 p6 (.tup [.str "band", .str ""])) p6 = some (.tup [.str "band", .str ""]) := upd_same
      generalize upd H5 p6 (.tup [.str "band", .str ""]) = H6 at s6 f6 ⊢
      refine ⟨_, rfl, b, CB, false, cx, dx, _, _, _, false, rfl, s6 _ _ fa2, s6 _ _ fd2, C.aB, (fun u r => r), C.bs, _, rfl, andkF (ifsF ?_)⟩
      exact ⟨_, rfl, k p6 _ f6 (s0.trans (s1.trans s6))⟩
    · obtain ⟨dx, cx, fa, fd⟩ := xs
      rw [eg] at k
      refine ⟨b, CS, some dx, cx, .ref CR :: bmB, rfl, fa, C.xS, by simp, ?_⟩
      refine ⟨_, rfl, b, CS, false, cx, dx, _, _, _, false, rfl, fa, fd, C.aS, (fun u r => r), C.s0, ?_⟩
      refine ⟨_, rfl, b, CS, false, cx, dx, _, _, _, false, rfl, fa, fd, C.aS, (fun u r => r), C.s1, ?_⟩
      refine ⟨_, rfl, b, CS, false, cx, dx, _, _, _, false, rfl, fa, fd, C.aS, (fun u r => r), C.s2, ?_⟩
      refine ⟨_, rfl, b, CS, false, cx, dx, _, _, _, false, rfl, fa, fd, C.aS, (fun u r => r), C.s3, (by show 4 ≤ sizeLine; omega), fun l1 hl1 => ?_⟩
      have s1 : Same H1 (upd H1 l1 (.lst [.bl false, .bl false, .bl false, .bl false])) := Same.new hl1
      have f1 : (upd H1 l1 (.lst [.bl false, .bl false, .bl false, .bl false])) l1 = some (.lst [.bl false, .bl false, .bl false, .bl false]) := upd_same
      generalize upd H1 l1 (.lst [.bl false, .bl false, .bl false, .bl false]) = H2 at s1 f1 ⊢
      have fa2 := s1 _ _ fa
      have fd2 := s1 _ _ fd
      refine ⟨_, rfl, _, rfl, b, CS, false, cx, dx, _, _, _, false, rfl, fa2, fd2, C.aS, (fun u r => r), C.s4, ?_⟩
      refine ⟨_, rfl, b, CS, false, cx, dx, _, _, _, true, rfl, fa2, fd2, C.aS, (fun u r => r), C.sv, ?_⟩
      refine ⟨_, rfl, (by show 2 ≤ sizeLine; omega), fun l2 hl2 => ?_⟩
      have s2 : Same H2 (upd H2 l2 (.lst [.bl false, .bl (!true)])) := Same.new hl2
      have f2 : (upd H2 l2 (.lst [.bl false, .bl (!true)])) l2 = some (.lst [.bl false, .bl (!true)]) := upd_same
      generalize upd H2 l2 (.lst [.bl false, .bl (!true)]) = H3 at s2 f2 ⊢
      refine ⟨l1, l2, _, _, rfl, rfl, s2 _ _ f1, f2, (by show 6 ≤ sizeLine; omega), fun l3 hl3 => ?_⟩
      have s3 : Same H3 (upd H3 l3 (.lst ([.bl false, .bl false, .bl false, .bl false] ++ [.bl false, .bl (!true)]))) := Same.new hl3
      have f3 : (upd H3 l3 (.lst ([.bl false, .bl false, .bl false, .bl false] ++ [.bl false, .bl (!true)]))) l3 = some (.lst [.bl false, .bl false, .bl false, .bl false, .bl false, .bl false]) := upd_same
      generalize upd H3 l3 (.lst ([.bl false, .bl false, .bl false, .bl false] ++ [.bl false, .bl (!true)])) = H4 at s3 f3 ⊢
      refine ⟨(by show 2 ≤ sizeLine; omega), fun t ht => ?_⟩
      have s4 : Same H4 (upd H4 t (.tup [.str "other", .str ""])) := Same.new ht
      generalize upd H4 t (.tup [.str "other", .str ""]) = H5 at s4 ⊢
      have s25 := (s2.trans s3).trans s4
      have fa5 := s25 _ _ fa2
      have fd5 := s25 _ _ fd2
      refine ⟨_, rfl, b, CS, false, cx, dx, _, _, _, false, rfl, fa5, fd5, C.aS, (fun u r => r), C.sb, _, rfl, andkF (ifsF ?_)⟩
      refine ⟨_, rfl, b, CS, false, cx, dx, _, _, _, true, rfl, fa5, fd5, C.aS, (fun u r => r), C.ss, _, rfl, andkT ?_⟩
      refine ⟨_, rfl, b, CS, false, cx, dx, _, _, _, false, rfl, fa5, fd5, C.aS, (fun u r => r), C.sb, _, rfl, nkF (andkT ?_)⟩
      refine ⟨_, rfl, l3, _, rfl, .inl (SqL.of (s4 _ _ f3)), rfl, rfl, _, rfl, ifsT ?_⟩
      refine ⟨_, rfl, b, CS, false, cx, dx, _, _, rfl, fa5, fd5, C.aS.1, C.pS, rfl, (by show 2 ≤ sizeLine; omega), fun p6 hp6 => ?_⟩
      exact ⟨_, rfl, k p6 _ upd_same (s0.trans ((s1.trans s25).then hp6))⟩
end
end Kx
set_option Elab.async false
set_option linter.all false
set_option maxRecDepth 100000
set_option maxHeartbeats 0
namespace Kx
open PySem PySem.Spec PyProof.Rows L2 Wd
section
variable {P : Program} {w : World} {K : PySem.W.Frag} {mg : Str → Option Value} {base : Heap} {aB : Addr}
noncomputable abbrev s_due : Stmt := top 29
theorem sc_due : FnScope ["_law_row", "_law_place", "_law_other", "_law_many", "_law_signs"] ["_law_row", "_law_place", "_law_other"] (defScope s_due) := ⟨rfl, rfl, rfl, by decide +kernel, rfl, by decide +kernel, by decide +kernel⟩
theorem c_due (D : Df K mg "_law_due" s_due) (T : Bt K w mg aB) : Fnc P w K mg base "_law_due" ["_law_row", "_law_place", "_law_other"] 3 spDue71 := by
  have sc := sc_due
  refine D.ok sc (fun _ _ _ _ _ _ us hl => by obtain ⟨_, _, _, rfl⟩ := len3 hl; rfl) (fun vs H Q E h => ?_) (fun f cdv A outer s H vs Q E hr h => ?_)
  · obtain ⟨u, p, q, rfl, _⟩ := h
    rfl
  · obtain ⟨u, p, q, rfl, u2m, u2, u12, k⟩ := h
    have l16 := line16
    have lu := toS_length u
    refine ⟨_, (@pss_cons _ _ _ _ _ (@ps_set _ _ (3) _ _ _ _ sc.nd rfl (Or.inl rfl) (@pe_op _ _ _ _ _ _ _ _ op_fdiv (@pe_callB _ _ _ _ _ _ _ _ _ call_len_str (by rfl) T.len PySem.boot_len (@pa_cons _ _ _ _ _ (pv 0) pa_nil (by rfl)) (by decide) (by decide) (by rfl) (by rfl)) pe_int) (by rfl) (by first | exact .inl rfl | exact .inr rfl | assumption)) (@pss_cons _ _ _ _ _ (@ps_if _ _ _ _ _ _ _ _ (@pt_cmpR _ _ _ _ _ _ _ _ op_eq (pv 3) pe_int (nomark _)) (@pss_one _ _ _ (@ps_ret _ _ _ _ (@pe_tup _ _ _ _ _ (@pa_cons _ _ _ _ _ pe_str (@pa_cons _ _ _ _ _ pe_str pa_nil (by rfl)) (by rfl))))) pss_nil) (@pss_cons _ _ _ _ _ (@ps_if _ _ _ _ _ _ _ _ (@pt_cmpR _ _ _ _ _ _ _ _ op_notIn_rng (pv 1) (@pe_callTy _ _ _ _ _ _ _ _ _ call_rng1 (by rfl) T.range boot_range (@pa_cons _ _ _ _ _ (@pe_op _ _ _ _ _ _ _ _ op_add (@pe_callB _ _ _ _ _ _ _ _ _ call_len_str (by rfl) T.len PySem.boot_len (@pa_cons _ _ _ _ _ (pv 0) pa_nil (by rfl)) (by decide) (by decide) (by rfl) (by rfl)) pe_int) pa_nil (by rfl)) (by decide) (by decide) (by rfl) (by rfl)) rfl) (@pss_one _ _ _ (@ps_ret _ _ _ _ (@pe_tup _ _ _ _ _ (@pa_cons _ _ _ _ _ pe_str (@pa_cons _ _ _ _ _ pe_int pa_nil (by rfl)) (by rfl))))) pss_nil) (@pss_cons _ _ _ _ _ (@ps_if _ _ _ _ _ _ _ _ (@pt_cmpR _ _ _ _ _ _ _ _ op_notIn_rng (pv 2) (@pe_callTy _ _ _ _ _ _ _ _ _ call_rng1 (by rfl) T.range boot_range (@pa_cons _ _ _ _ _ (@pe_op _ _ _ _ _ _ _ _ op_add (@pe_callB _ _ _ _ _ _ _ _ _ call_len_str (by rfl) T.len PySem.boot_len (@pa_cons _ _ _ _ _ (pv 0) pa_nil (by rfl)) (by decide) (by decide) (by rfl) (by rfl)) pe_int) pa_nil (by rfl)) (by decide) (by decide) (by rfl) (by rfl)) rfl) (@pss_one _ _ _ (@ps_ret _ _ _ _ (@pe_tup _ _ _ _ _ (@pa_cons _ _ _ _ _ pe_str (@pa_cons _ _ _ _ _ pe_int pa_nil (by rfl)) (by rfl))))) pss_nil) (@pss_cons _ _ _ _ _ (@ps_set _ _ (4) _ _ _ _ sc.nd rfl (Or.inl rfl) (@pe_callTy _ _ _ _ _ _ _ _ _ (@call_list_signs _ rfl) (by rfl) T.list b_list (@pa_cons _ _ _ _ _ (pv 0) pa_nil (by rfl)) (by decide) (by decide) (by rfl) (by rfl)) (by rfl) (by first | exact .inl rfl | exact .inr rfl | assumption)) (@pss_cons _ _ _ _ _ (@ps_expr _ _ _ _ (@pe_bm _ _ _ _ _ _ _ _ _ _ _ _ PySem.F.plainAttrs_list PySem.F.slot_list_insert PySem.F.type_list_insert mt_insert (pv 4) (@pa_cons _ _ _ _ _ (pv 1) (@pa_cons _ _ _ _ _ (@pe_ix _ _ _ _ _ _ _ ix_str pe_str (pv 3) (fun _ _ => rfl)) pa_nil (by rfl)) (by rfl)) (by rfl) (by rfl) (by rfl) (by rfl) (by rfl)) (by rfl)) (@pss_cons _ _ _ _ _ (@ps_expr _ _ _ _ (@pe_bm _ _ _ _ _ _ _ _ _ _ _ _ PySem.F.plainAttrs_list PySem.F.slot_list_insert PySem.F.type_list_insert mt_insert (pv 4) (@pa_cons _ _ _ _ _ (pv 2) (@pa_cons _ _ _ _ _ (@pe_ix _ _ _ _ _ _ _ ix_str pe_str (pv 3) (fun _ _ => rfl)) pa_nil (by rfl)) (by rfl)) (by rfl) (by rfl) (by rfl) (by rfl) (by rfl)) (by rfl)) (@pss_one _ _ _ (@ps_ret _ _ _ _ (@pe_tup _ _ _ _ _ (@pa_cons _ _ _ _ _ pe_str (@pa_cons _ _ _ _ _ (@pe_bm _ _ _ _ _ _ _ _ _ _ _ _ PySem.F.plainAttrs_str PySem.F.slot_str_join PySem.F.type_str_join mt_join pe_str (@pa_cons _ _ _ _ _ (pv 4) pa_nil (by rfl)) (by rfl) (by rfl) (by rfl) (by rfl) (by rfl)) pa_nil (by rfl)) (by rfl)))))))))))), ?_⟩
    have e6 : ((toS u).length : Int) / 2 = ((u.length / 2 : Nat) : Int) := by omega
    refine ⟨_, rfl, toS u, rfl, by omega, _, _, rfl, rfl, ⟨by decide, by decide⟩, ?_⟩
    rw [e6]
    refine ⟨_, rfl, rfl, _, rfl, ?_⟩
    have e2 : decide (V.int ((u.length / 2 : Nat) : Int) = V.int 6) = decide (u.length = 12) := by
      by_cases h : u.length = 12
      · rw [decide_eq_true h, h]; rfl
      · rw [decide_eq_false h]; exact decide_eq_false fun q => h (by have := V.int.inj q; omega)
    rw [e2]
    by_cases h12 : u.length = 12
    · rw [decide_eq_true h12]
      rw [glu_band h12] at k
      exact ifsT ⟨(by show 2 ≤ sizeLine; omega), fun t ht => k t _ upd_same (Same.new ht)⟩
    rw [decide_eq_false h12]
    refine ifsF ⟨_, rfl, _, rfl, toS u, rfl, by omega, _, _, rfl, rfl, _, rfl, fun r1 hr1 => ?_⟩
    refine ⟨_, r1, _, rfl, rfl, upd_same, _, rfl, ?_⟩
    have s1 : Same H (upd H r1 (.rng 0 (((toS u).length : Int) + 1))) := Same.new hr1
    generalize upd H r1 (.rng 0 (((toS u).length : Int) + 1)) = H1 at s1 ⊢
    by_cases hp : 0 ≤ p ∧ p ≤ (u.length : Int)
    rotate_left
    · rw [glu_s0 h12 hp] at k
      have : (!(decide (0 ≤ p) && decide (p < ((toS u).length : Int) + 1))) = true := by
        by_cases h0 : 0 ≤ p
        · rw [decide_eq_false (show ¬ p < ((toS u).length : Int) + 1 from fun z => hp ⟨h0, by omega⟩), Bool.and_false]; rfl
        · rw [decide_eq_false h0]; rfl
      rw [this]
      exact ifsT ⟨(by show 2 ≤ sizeLine; omega), fun t ht => k t _ upd_same (s1.then ht)⟩
    rw [decide_eq_true hp.1, decide_eq_true (show p < ((toS u).length : Int) + 1 by omega)]
    refine ifsF ⟨_, rfl, _, rfl, toS u, rfl, by omega, _, _, rfl, rfl, _, rfl, fun r2 hr2 => ?_⟩
    refine ⟨_, r2, _, rfl, rfl, upd_same, _, rfl, ?_⟩
    have s2 := s1.then (o := .rng 0 (((toS u).length : Int) + 2)) hr2
    generalize upd H1 r2 (.rng 0 (((toS u).length : Int) + 2)) = H2 at s2 ⊢
    by_cases hq : 0 ≤ q ∧ q ≤ (u.length : Int) + 1
    rotate_left
    · rw [glu_s1 h12 hp hq] at k
      have : (!(decide (0 ≤ q) && decide (q < ((toS u).length : Int) + 2))) = true := by
        by_cases h0 : 0 ≤ q
        · rw [decide_eq_false (show ¬ q < ((toS u).length : Int) + 2 from fun z => hq ⟨h0, by omega⟩), Bool.and_false]; rfl
        · rw [decide_eq_false h0]; rfl
      rw [this]
      exact ifsT ⟨(by show 2 ≤ sizeLine; omega), fun t ht => k t _ upd_same (s2.then ht)⟩
    rw [decide_eq_true hq.1, decide_eq_true (show q < ((toS u).length : Int) + 2 by omega)]
    refine ifsF ?_
    rw [glu_ok h12 hp hq] at k
    obtain ⟨pn, rfl⟩ := Int.eq_ofNat_of_zero_le hp.1
    obtain ⟨qn, rfl⟩ := Int.eq_ofNat_of_zero_le hq.1
    rw [Int.toNat_natCast, Int.toNat_natCast] at k
    have hk : u.length / 2 < 6 := by omega
    refine ⟨_, rfl, _, rfl, by omega, fun l hl => ?_⟩
    have so : L2.signs (toS u) = ones u := by
      unfold L2.signs ones
      rw [toS_cps, List.map_map]
      rfl
    rw [so]
    have oi : ∀ (W : List L) (x : L) (n : Nat), (ones W).take n ++ tx [x] :: (ones W).drop n = ones (W.take n ++ [x] ++ W.drop n) := fun W x n => by
      unfold ones
      rw [← List.map_take, ← List.map_drop, List.append_assoc, List.map_append]
      rfl
    have s3 := s2.then (o := .lst (ones u)) hl
    have f3 : (upd H2 l (.lst (ones u))) l = some (.lst (ones u)) := upd_same
    have hlo : ∀ b o, H b = some o → b ≠ l := fun b o e z => by
      have := s2 _ _ e
      rw [z, hl] at this
      cases this
    generalize upd H2 l (.lst (ones u)) = H3 at s3 f3 ⊢
    refine ⟨_, rfl, .inl ⟨rfl, _, SqL.of f3⟩, _, rfl, _, rfl, _, _, _, rfl, rfl, (by decide +kernel), atI_nat (small71 ⟨u.length / 2, hk⟩), l, _, _, _, rfl, rfl, f3, by omega, (by rw [ones_length]; omega), (by rw [ones_length]; omega), ?_⟩
    rw [Int.toNat_natCast]
    show tSeq _ _ _ _ (upd H3 l (.lst ((ones u).take pn ++ tx [lt6 (u.length / 2)] :: (ones u).drop pn)))
    rw [oi]
    have hw : (u.take pn ++ [lt6 (u.length / 2)] ++ u.drop pn).length = u.length + 1 := by
      rw [List.length_append, List.length_append, List.length_take, List.length_drop, List.length_singleton]
      omega
    have f4 : (upd H3 l (.lst (ones (u.take pn ++ [lt6 (u.length / 2)] ++ u.drop pn)))) l = some (.lst (ones (u.take pn ++ [lt6 (u.length / 2)] ++ u.drop pn))) := upd_same
    have s4 : Same H (upd H3 l (.lst (ones (u.take pn ++ [lt6 (u.length / 2)] ++ u.drop pn)))) := fun b o e => by
      rw [upd_ne (hlo b o e)]
      exact s3 _ _ e
    generalize upd H3 l (.lst (ones (u.take pn ++ [lt6 (u.length / 2)] ++ u.drop pn))) = H4 at s4 f4 ⊢
    refine ⟨_, rfl, .inl ⟨rfl, _, SqL.of f4⟩, _, rfl, _, rfl, _, _, _, rfl, rfl, (by decide +kernel), atI_nat (big71 ⟨u.length / 2, hk⟩), l, _, _, _, rfl, rfl, f4, by omega, (by rw [ones_length]; omega), (by rw [ones_length]; omega), ?_⟩
    rw [Int.toNat_natCast]
    generalize hW : u.take pn ++ [lt6 (u.length / 2)] ++ u.drop pn = W at hw f4
    have kk : (gluW u pn qn (u.length / 2)) = W.take qn ++ [inv (lt6 (u.length / 2))] ++ W.drop qn := by
      unfold gluW
      rw [hW]
    rw [kk] at k
    have hg : (W.take qn ++ [inv (lt6 (u.length / 2))] ++ W.drop qn).length ≤ 20 := by
      rw [List.length_append, List.length_append, List.length_take, List.length_drop, List.length_singleton]
      omega
    rw [show (V.str ⟨#[cp (inv (lt6 (u.length / 2)))]⟩) = tx [inv (lt6 (u.length / 2))] from rfl, oi]
    have s5 : Same H (upd H4 l (.lst (ones (W.take qn ++ [inv (lt6 (u.length / 2))] ++ W.drop qn)))) := fun b o e => by
      rw [upd_ne (hlo b o e)]
      exact s4 _ _ e
    have f5 : (upd H4 l (.lst (ones (W.take qn ++ [inv (lt6 (u.length / 2))] ++ W.drop qn)))) l = some (.lst (ones (W.take qn ++ [inv (lt6 (u.length / 2))] ++ W.drop qn))) := upd_same
    generalize W.take qn ++ [inv (lt6 (u.length / 2))] ++ W.drop qn = G at k hg s5 f5 ⊢
    generalize upd H4 l (.lst (ones G)) = H5 at s5 f5 ⊢
    refine ⟨rfl, _, rfl, _, l, G.map fun x => toS [x], rfl, rfl, SqL.of (by rw [f5, ones_str]), join_room _ (by omega), ?_⟩
    rw [join_ones]
    exact ⟨(by show 2 ≤ sizeLine; omega), fun t ht => k t _ upd_same (s5.then ht)⟩
end
end Kx
set_option Elab.async false
set_option linter.all false
set_option maxRecDepth 100000
set_option maxHeartbeats 0
namespace Kx
open PySem PySem.Spec PyProof.Rows L2 Wd
section
variable {P : Program} {w : World} {K : PySem.W.Frag} {mg : Str → Option Value} {base : Heap} {aB : Addr}
noncomputable abbrev s_right : Stmt := top 30
theorem sc_right : FnScope ["_law_row", "_law_place", "_law_other", "_law_due_here"] ["_law_row", "_law_place", "_law_other"] (defScope s_right) := ⟨rfl, rfl, rfl, by decide +kernel, rfl, by decide +kernel, by decide +kernel⟩
theorem c_right {N : Nat} {CB : Addr} (D : Df K mg "_law_right" s_right) (T : Bt K w mg aB) (F_due : Fnc P w K mg base "_law_due" ["_law_row", "_law_place", "_law_other"] 3 spDue71) (F_told : Fnc P w K mg base "_law_told" ["_law_row", "_law_place", "_law_other"] 4 spTold71) (F_issurf : Fnc P w K mg base "is_surface" ["thing"] 2 (spSurf K)) (F_cut : FncT P w K mg base "cut" ["surface", "letter"] 4 (spCutX CB N)) : FncT P w K mg base "_law_right" ["_law_row", "_law_place", "_law_other"] 5 (spRight71 N) := by
  have sc := sc_right
  refine D.okT sc (fun _ _ _ _ _ _ us hl => by obtain ⟨_, _, _, rfl⟩ := len3 hl; rfl) (fun n vs H Q E h => ?_) (fun f cdv A outer s H vs Q E hr h => ?_)
  · obtain ⟨u, m, p, q, rfl, _⟩ := h
    rfl
  · obtain ⟨u, m, p, q, rfl, hN0, hN, R, m1, m6, k⟩ := h
    have l16 := line16
    have hlu := R.len
    have lu := toS_length u
    refine ⟨_, (@pss_cons _ _ _ _ _ (@ps_set _ _ (3) _ _ _ _ sc.nd rfl (Or.inl rfl) (@pe_fn _ _ _ _ _ _ _ _ _ _ _ F_due hr (by decide) rfl (@pa_cons _ _ _ _ _ (pv 0) (@pa_cons _ _ _ _ _ (pv 1) (@pa_cons _ _ _ _ _ (pv 2) pa_nil (by rfl)) (by rfl)) (by rfl)) (by decide) (by rfl) (by rfl)) (by rfl) (by first | exact .inl rfl | exact .inr rfl | assumption)) (@pss_cons _ _ _ _ _ (@ps_if _ _ _ _ _ _ _ _ (@pt_cmpR _ _ _ _ _ _ _ _ op_ne (@pe_callB _ _ _ _ _ _ _ _ _ (@call_repr_V _ (by exact hr.gd) (by exact hr.units)) (by rfl) T.repr b_repr (@pa_cons _ _ _ _ _ (@pe_fn _ _ _ _ _ _ _ _ _ _ _ F_told hr (by decide) rfl (@pa_cons _ _ _ _ _ (pv 0) (@pa_cons _ _ _ _ _ (pv 1) (@pa_cons _ _ _ _ _ (pv 2) pa_nil (by rfl)) (by rfl)) (by rfl)) (by decide) (by rfl) (by rfl)) pa_nil (by rfl)) (by decide) (by decide) (by rfl) (by rfl)) (@pe_callB _ _ _ _ _ _ _ _ _ (@call_repr_dat _ (by exact hr.gd) (by exact hr.units)) (by rfl) T.repr b_repr (@pa_cons _ _ _ _ _ (pv 3) pa_nil (by rfl)) (by decide) (by decide) (by rfl) (by rfl)) (nomark _)) (@pss_one _ _ _ (@ps_ret _ _ _ _ pe_bl)) pss_nil) (@pss_cons _ _ _ _ _ (@ps_if _ _ _ _ _ _ _ _ (@pt_cmpR _ _ _ _ _ _ _ _ op_ne (@pe_ix _ _ _ _ _ _ _ ix_tup (pv 3) pe_int (fun _ _ => rfl)) pe_str (nomark _)) (@pss_one _ _ _ (@ps_ret _ _ _ _ pe_bl)) pss_nil) (@pss_one _ _ _ (@ps_ret _ _ _ _ (@pe_and _ _ _ _ _ _ _ (@pe_cmpR _ _ _ _ _ _ _ _ op_isB (@pe_fn _ _ _ _ _ _ _ _ _ _ _ F_issurf hr (by decide) rfl (@pa_cons _ _ _ _ _ (@pe_ix _ _ _ _ _ _ _ ix_tup (pv 3) pe_int (fun _ _ => rfl)) pa_nil (by rfl)) (by decide) (by rfl) (by rfl)) pe_bl (nomark _)) (@pe_one _ _ _ _ _ (@pe_cmpR _ _ _ _ _ _ _ _ op_eq (@pe_fnLit _ _ _ _ _ _ _ _ _ _ _ _ _ _ _ _ _ F_cut hr (by decide) passes_def rfl (@pe_ix _ _ _ _ _ _ _ ix_tup (pv 3) pe_int (fun _ _ => rfl)) (@pe_op _ _ _ _ _ _ _ _ op_fdiv (@pe_callB _ _ _ _ _ _ _ _ _ call_len_str (by rfl) T.len PySem.boot_len (@pa_cons _ _ _ _ _ (pv 0) pa_nil (by rfl)) (by decide) (by decide) (by rfl) (by rfl)) pe_int) (by decide +kernel) (fun _ _ => rfl) (by decide) (by rfl) (by rfl) (by rfl)) (pv 0) (nomark _))))))))), ?_⟩
    refine ⟨_, rfl, _, rfl, _, rfl, u, p, q, rfl, by omega, by omega, by omega, fun t H1 f1 s1 => ?_⟩
    refine ⟨_, rfl, _, rfl, _, rfl, u, p, q, rfl, by omega, by omega, fun t2 H2 f2 s2 => ?_⟩
    obtain ⟨d, hd, hsh, hnt⟩ := glu_dat (u := u) (by omega) p q
    have f3 := s2 _ _ f1
    refine ⟨.ref t2, d, rfl, hd _ _ f2, hsh, hnt, ?_⟩
    refine ⟨_, rfl, t, d, rfl, hd _ _ f3, hsh, rfl, _, rfl, ?_⟩
    rw [decide_eq_true rfl]
    refine ifsF ?_
    have s3 := s1.trans s2
    by_cases h12 : u.length = 12
    · rw [glu_band h12] at f3
      refine ⟨_, rfl, t, _, _, _, rfl, rfl, SqT.of f3, rfl, rfl, _, rfl, ?_⟩
      rw [decide_eq_false (fun e => absurd (V.str.inj e) (by decide +kernel))]
      exact ifsT (k _ s3)
    by_cases hp : 0 ≤ p ∧ p ≤ (u.length : Int)
    rotate_left
    · rw [glu_s0 h12 hp] at f3
      refine ⟨_, rfl, t, _, _, _, rfl, rfl, SqT.of f3, rfl, rfl, _, rfl, ?_⟩
      rw [decide_eq_false (fun e => absurd (V.str.inj e) (by decide +kernel))]
      exact ifsT (k _ s3)
    by_cases hq : 0 ≤ q ∧ q ≤ (u.length : Int) + 1
    rotate_left
    · rw [glu_s1 h12 hp hq] at f3
      refine ⟨_, rfl, t, _, _, _, rfl, rfl, SqT.of f3, rfl, rfl, _, rfl, ?_⟩
      rw [decide_eq_false (fun e => absurd (V.str.inj e) (by decide +kernel))]
      exact ifsT (k _ s3)
    rw [glu_ok h12 hp hq] at f3
    have em : u.length / 2 = m := by omega
    rw [em] at f3
    have gl := gluW_len (u := u) (p := p.toNat) (q := q.toNat) (m := m)
    refine ⟨_, rfl, t, _, _, _, rfl, rfl, SqT.of f3, rfl, rfl, _, rfl, ?_⟩
    rw [decide_eq_true rfl]
    refine ifsF ?_
    refine ⟨_, rfl, t, _, _, _, rfl, rfl, SqT.of f3, rfl, tx (gluW u p.toNat q.toNat m), rfl, .str _ (by rw [toS_length]; omega), fun H4 s4 => ?_⟩
    rw [surf_glu R m1 (by omega)]
    refine ⟨_, _, rfl, rfl, ?_⟩
    have f4 := s4 _ _ f3
    refine ⟨_, rfl, _, rfl, t, _, _, _, rfl, rfl, SqT.of f4, rfl, _, rfl, toS u, rfl, by omega, _, _, rfl, rfl, ⟨by decide, by decide⟩, ?_⟩
    have e6 : ((toS u).length : Int) / 2 = ((m : Nat) : Int) := by omega
    rw [e6]
    refine ⟨_, _, rfl, atI_nat (small71 ⟨m, by omega⟩), fun tk n l1 l2 => ?_⟩
    have l1 : s.toks ≤ tk := l1
    have hx : (lt6 m).val = m := lt6_val (by omega)
    refine ⟨gluW u p.toNat q.toNat m, toS [lt6 m], _, rfl, rfl, Nat.le_trans hN (Nat.le_trans l1 (Nat.le_of_lt l2)), by omega, by omega, (by rw [toS_length]; show 1 ≤ 100; decide), fun x h1 h2 h3 h4 => ⟨⟨tk, rfl, Nat.lt_of_lt_of_le hN0 (Nat.le_trans hN l1), l2⟩, fun H' s' => ?_⟩, fun hc => ?_⟩
    · obtain rfl : lt6 m = x := by
        have := toS_inj h4
        simpa using this
      rw [cut_glu R (by omega)]
      refine ⟨_, rfl, rfl, ?_⟩
      rw [decide_eq_true rfl]
      exact k _ (s3.trans (s4.trans s'))
    · refine (hc.elim (fun z => by omega) fun z => z (lt6 m) (by rw [hx]; omega) (by rw [hx]; omega) rfl).elim
end
end Kx
set_option Elab.async false
set_option linter.all false
set_option maxRecDepth 100000
set_option maxHeartbeats 0
namespace Kx
open PySem PySem.Spec PyProof.Rows L2 Wd
section
variable {P : Program} {w : World} {K : PySem.W.Frag} {mg : Str → Option Value} {base : Heap} {aB : Addr}
noncomputable def Prs (H : Hp) (xs : List V) : Prop := ∀ x ∈ xs, ∃ (t : Addr) (p q : Int), x = .ref t ∧ H t = some (.tup [.int p, .int q])
theorem Prs.sb {H H' : Hp} {d : Addr} {xs : List V} (P : Prs H xs) (F : Fd H d) (s : SameB d H H') : Prs H' xs := fun x hx => by
  obtain ⟨t, p, q, e, h⟩ := P x hx
  exact ⟨t, p, q, e, s _ _ (F.neT h) h⟩
theorem Prs.same {H H' : Hp} {xs : List V} (P : Prs H xs) (s : Same H H') : Prs H' xs := fun x hx => by
  obtain ⟨t, p, q, e, h⟩ := P x hx
  exact ⟨t, p, q, e, s _ _ h⟩
theorem Prs.app {H : Hp} {xs ys : List V} (P : Prs H xs) (R : Prs H ys) : Prs H (xs ++ ys) := fun x hx => (List.mem_append.mp hx).elim (P x) (R x)
theorem Prs.one {H : Hp} {t : Addr} {p q : Int} (h : H t = some (.tup [.int p, .int q])) : Prs H [.ref t] := fun x hx => ⟨t, p, q, by simpa using hx, h⟩
theorem Prs.nil {H : Hp} : Prs H [] := fun x hx => by cases hx
theorem Prs.own {H : Hp} {l : Addr} {xs ys zs : List V} (P : Prs H xs) (h : H l = some (.lst ys)) : Prs (upd H l (.lst zs)) xs := fun x hx => by
  obtain ⟨t, p, q, e, ht⟩ := P x hx
  refine ⟨t, p, q, e, ?_⟩
  rw [upd_ne (fun z => by rw [z, h] at ht; cases ht)]
  exact ht
theorem fd_own7 {H : Hp} {d l p : Addr} {ys zs : List V} (F : Fd H d) (h : H l = some (.lst ys)) (hx : .ref p ∈ ys) : Fd (upd H l (.lst zs)) d := F.upd h (F.nl h) hx
theorem Prs.has {H : Hp} {xs : List V} (P : Prs H xs) (h : 0 < xs.length) : ∃ p, V.ref p ∈ xs := by
  match xs, P, h with
  | x :: r, P, _ =>
    obtain ⟨t, _, _, e, _⟩ := P x List.mem_cons_self
    exact ⟨t, e ▸ List.mem_cons_self⟩
noncomputable abbrev s_law : Stmt := top 31
theorem sc_law : FnScope ["_law_script", "_law_feed_here", "_law_k", "_law_row", "_law_far", "_law_pairs", "_law_place"] ["_law_script"] (defScope s_law) := ⟨rfl, rfl, rfl, by decide +kernel, rfl, by decide +kernel, by decide +kernel⟩
theorem c_law {f : Addr} {fd : FuncData} {N : Nat} (D : Fun K "law" "law" s_law f fd) (T : Bt K w mg aB) (F_feed : Fnc P w K mg base "_law_feed" ["_law_script"] 1 (spFeed K)) (F_draw : Fnc P w K mg base "_law_draw" ["_law_feed_here", "_law_many"] 1 spDraw) (F_surf : Fnc P w K mg base "_law_surface" ["_law_feed_here", "_law_many"] 2 spSurfD)
    (F_right : FncT P w K mg base "_law_right" ["_law_row", "_law_place", "_law_other"] 5 (spRight71 N)) : FnOkT P w K mg base CX0 9 f fd ["_law_script"] (spLaw70 K N) := by
  have sc := sc_law
  refine D.okT sc (fun n vs H Q E h => ?_) (fun cdv A outer s H vs Q E hr h => ?_)
  · obtain ⟨a, ns, rfl, _⟩ := h
    rfl
  · obtain ⟨a, ns, rfl, hS, hlen, hN0, hN, k⟩ := h
    have l16 := line16
    refine ⟨_, (@pss_cons _ _ _ _ _ (@ps_set _ _ (1) _ _ _ _ sc.nd rfl (Or.inr rfl) (@pe_fn _ _ _ _ _ _ _ _ _ _ _ F_feed hr (by decide) rfl (@pa_cons _ _ _ _ _ (pv 0) pa_nil (by rfl)) (by decide) (by rfl) (by rfl)) (by rfl) (by first | exact .inl rfl | exact .inr rfl | assumption)) (@pss_cons _ _ _ _ _ (@ps_for _ _ _ _ _ _ _ _ PassesOwn.never rfl (@pi_range1 _ _ _ _ _ _ rfl T.range (@pa_cons _ _ _ _ _ pe_int pa_nil (by rfl)) (by rfl)) (@pg_name _ _ (2) _ sc.nd rfl (Or.inl rfl) (by first | exact .inl rfl | exact .inr rfl | assumption)) (@pss_cons _ _ _ _ _ (@ps_set _ _ (3) _ _ _ _ sc.nd rfl (Or.inr rfl) (@pe_fn _ _ _ _ _ _ _ _ _ _ _ F_surf hr (by decide) rfl (@pa_cons _ _ _ _ _ (pv 1) (@pa_cons _ _ _ _ _ (@pe_op _ _ _ _ _ _ _ _ op_add pe_int (@pe_fn _ _ _ _ _ _ _ _ _ _ _ F_draw hr (by decide) rfl (@pa_cons _ _ _ _ _ (pv 1) (@pa_cons _ _ _ _ _ pe_int pa_nil (by rfl)) (by rfl)) (by decide) (by rfl) (by rfl))) pa_nil (by rfl)) (by rfl)) (by decide) (by rfl) (by rfl)) (by rfl) (by first | exact .inl rfl | exact .inr rfl | assumption)) (@pss_cons _ _ _ _ _ (@ps_set _ _ (4) _ _ _ _ sc.nd rfl (Or.inr rfl) (@pe_lst _ _ _ _ (@pa_c _ _ _ _ _ (@pe_un _ _ _ _ _ _ un_neg pe_int) (@pa_c _ _ _ _ _ (@pe_un _ _ _ _ _ _ un_neg pe_int) (@pa_c _ _ _ _ _ (@pe_op _ _ _ _ _ _ _ _ op_add (@pe_callB _ _ _ _ _ _ _ _ _ call_len_str (by rfl) T.len PySem.boot_len (@pa_cons _ _ _ _ _ (pv 3) pa_nil (by rfl)) (by decide) (by decide) (by rfl) (by rfl)) pe_int) (@pa_c _ _ _ _ _ (@pe_op _ _ _ _ _ _ _ _ op_add (@pe_callB _ _ _ _ _ _ _ _ _ call_len_str (by rfl) T.len PySem.boot_len (@pa_cons _ _ _ _ _ (pv 3) pa_nil (by rfl)) (by decide) (by decide) (by rfl) (by rfl)) pe_int) (@pa_c _ _ _ _ _ (@pe_callB _ _ _ _ _ _ _ _ _ call_len_str (by rfl) T.len PySem.boot_len (@pa_cons _ _ _ _ _ (pv 3) pa_nil (by rfl)) (by decide) (by decide) (by rfl) (by rfl)) (@pa_c _ _ _ _ _ pe_int (@pa_c _ _ _ _ _ (@pe_op _ _ _ _ _ _ _ _ op_pow pe_int pe_int) (@pa_c _ _ _ _ _ (@pe_un _ _ _ _ _ _ un_neg (@pe_op _ _ _ _ _ _ _ _ op_pow pe_int pe_int)) pa_nil (by rfl)) (by rfl)) (by rfl)) (by rfl)) (by rfl)) (by rfl)) (by rfl)) (by rfl))) (by rfl) (by first | exact .inl rfl | exact .inr rfl | assumption)) (@pss_cons _ _ _ _ _ (@ps_setC _ (5) _ _ _ _ _ _ _ _ _ (["_law_turn", "_law_feed_here", "_law_row"]) (["_law_turn"]) ([1, 3]) _ _ _ _ sc.nd rfl (Or.inl rfl) (@blk_of _ _ _ _ _ _ rfl (by kernel_rfl)) rfl (@pi_range1 _ _ _ _ _ _ rfl T.range (@pa_cons _ _ _ _ _ pe_int pa_nil (by rfl)) (by rfl)) (fun _ _ _ _ => @pg_name _ _ (0) _ (show (["_law_turn", "_law_feed_here", "_law_row"] : List Str).Nodup from by decide +kernel) rfl (Or.inl rfl) (by first | exact .inl rfl | exact .inr rfl | assumption)) (fun _ _ _ _ => pifs_nil) (fun _ _ _ _ => by (exact (@pe_tup _ _ _ _ _ (@pa_cons _ _ _ _ _ (@pe_fn _ _ _ _ _ _ _ _ _ _ _ F_draw hr (by decide) rfl (@pa_cons _ _ _ _ _ (pv 1) (@pa_cons _ _ _ _ _ (@pe_op _ _ _ _ _ _ _ _ op_add (@pe_callB _ _ _ _ _ _ _ _ _ call_len_str (by rfl) T.len PySem.boot_len (@pa_cons _ _ _ _ _ (pv 2) pa_nil (by rfl)) (by decide) (by decide) (by rfl) (by rfl)) pe_int) pa_nil (by rfl)) (by rfl)) (by decide) (by rfl) (by rfl)) (@pa_cons _ _ _ _ _ (@pe_fn _ _ _ _ _ _ _ _ _ _ _ F_draw hr (by decide) rfl (@pa_cons _ _ _ _ _ (pv 1) (@pa_cons _ _ _ _ _ (@pe_op _ _ _ _ _ _ _ _ op_add (@pe_callB _ _ _ _ _ _ _ _ _ call_len_str (by rfl) T.len PySem.boot_len (@pa_cons _ _ _ _ _ (pv 2) pa_nil (by rfl)) (by decide) (by decide) (by rfl) (by rfl)) pe_int) pa_nil (by rfl)) (by rfl)) (by decide) (by rfl) (by rfl)) pa_nil (by rfl)) (by rfl))))) (by intro _ ; rfl) (by rfl) (by first | exact .inl rfl | exact .inr rfl | assumption)) (@pss_cons _ _ _ _ _ (@ps_set _ _ (5) _ _ _ _ sc.nd rfl (Or.inl rfl) (@pe_op _ _ _ _ _ _ _ _ op_cat (pv 5) (@pe_comp _ _ _ _ _ _ _ (["_law_turn", "_law_far", "_law_feed_here"]) (["_law_turn"]) ([4, 1]) _ _ _ _ (@blk_of _ _ _ _ _ _ rfl (by kernel_rfl)) rfl (@pi_range1 _ _ _ _ _ _ rfl T.range (@pa_cons _ _ _ _ _ pe_int pa_nil (by rfl)) (by rfl)) (fun _ _ _ _ => @pg_name _ _ (0) _ (show (["_law_turn", "_law_far", "_law_feed_here"] : List Str).Nodup from by decide +kernel) rfl (Or.inl rfl) (by first | exact .inl rfl | exact .inr rfl | assumption)) (fun _ _ _ _ => pifs_nil) (fun _ _ _ _ => by (exact (@pe_tup _ _ _ _ _ (@pa_cons _ _ _ _ _ (@pe_ix _ _ _ _ _ _ _ (@ix_listK _ (K) rfl) (pv 1) (@pe_fn _ _ _ _ _ _ _ _ _ _ _ F_draw hr (by decide) rfl (@pa_cons _ _ _ _ _ (pv 2) (@pa_cons _ _ _ _ _ pe_int pa_nil (by rfl)) (by rfl)) (by decide) (by rfl) (by rfl)) (fun _ _ => rfl)) (@pa_cons _ _ _ _ _ (@pe_ix _ _ _ _ _ _ _ (@ix_listK _ (K) rfl) (pv 1) (@pe_fn _ _ _ _ _ _ _ _ _ _ _ F_draw hr (by decide) rfl (@pa_cons _ _ _ _ _ (pv 2) (@pa_cons _ _ _ _ _ pe_int pa_nil (by rfl)) (by rfl)) (by decide) (by rfl) (by rfl)) (fun _ _ => rfl)) pa_nil (by rfl)) (by rfl))))) (by intro _ ; rfl))) (by rfl) (by first | exact .inl rfl | exact .inr rfl | assumption)) (@pss_cons _ _ _ _ _ (@ps_for _ _ _ _ _ _ _ _ PassesOwn.never rfl (@pi_range1 _ _ _ _ _ _ rfl T.range (@pa_cons _ _ _ _ _ (@pe_op _ _ _ _ _ _ _ _ op_mul (@pe_op _ _ _ _ _ _ _ _ op_add (@pe_callB _ _ _ _ _ _ _ _ _ call_len_str (by rfl) T.len PySem.boot_len (@pa_cons _ _ _ _ _ (pv 3) pa_nil (by rfl)) (by decide) (by decide) (by rfl) (by rfl)) pe_int) (@pe_callTy _ _ _ _ _ _ _ _ _ call_int1 (by rfl) T.int b_int (@pa_cons _ _ _ _ _ (@pe_cmpR _ _ _ _ _ _ _ _ op_lt (@pe_callB _ _ _ _ _ _ _ _ _ call_len_str (by rfl) T.len PySem.boot_len (@pa_cons _ _ _ _ _ (pv 3) pa_nil (by rfl)) (by decide) (by decide) (by rfl) (by rfl)) pe_int (nomark _)) pa_nil (by rfl)) (by decide) (by decide) (by rfl) (by rfl))) pa_nil (by rfl)) (by rfl)) (@pg_name _ _ (6) _ sc.nd rfl (Or.inr rfl) (by first | exact .inl rfl | exact .inr rfl | assumption)) (@pss_one _ _ _ (@ps_expr _ _ _ _ (@pe_bm _ _ _ _ _ _ _ _ _ _ _ _ PySem.F.plainAttrs_list PySem.F.slot_list_extend PySem.F.type_list_extend mt_extend (pv 5) (@pa_cons _ _ _ _ _ (@pe_comp _ _ _ _ _ _ _ (["_law_other", "_law_place"]) (["_law_other"]) ([6]) _ _ _ _ (@blk_of _ _ _ _ _ _ rfl (by kernel_rfl)) rfl (@pi_range1 _ _ _ _ _ _ rfl T.range (@pa_cons _ _ _ _ _ (@pe_op _ _ _ _ _ _ _ _ op_add (@pe_callB _ _ _ _ _ _ _ _ _ call_len_str (by rfl) T.len PySem.boot_len (@pa_cons _ _ _ _ _ (pv 3) pa_nil (by rfl)) (by decide) (by decide) (by rfl) (by rfl)) pe_int) pa_nil (by rfl)) (by rfl)) (fun _ _ _ _ => @pg_name _ _ (0) _ (show (["_law_other", "_law_place"] : List Str).Nodup from by decide +kernel) rfl (Or.inl rfl) (by first | exact .inl rfl | exact .inr rfl | assumption)) (fun _ _ _ _ => pifs_nil) (fun _ _ _ _ => by (exact (@pe_tup _ _ _ _ _ (@pa_cons _ _ _ _ _ (pv 1) (@pa_cons _ _ _ _ _ (pv 0) pa_nil (by rfl)) (by rfl))))) (by intro _ ; rfl)) pa_nil (by rfl)) (by rfl) (by rfl) (by rfl) (by rfl) (by rfl)) (by rfl))) (by intro _ ; rfl)) (@pss_one _ _ _ (@ps_if _ _ _ _ _ _ _ _ (@pt_cmpR _ _ _ _ _ _ _ _ (@op_ne_nil _ (by exact hr.units)) (@pe_comp _ _ _ _ _ _ _ (["_law_place", "_law_other", "_law_row"]) (["_law_place", "_law_other"]) ([3]) _ _ _ _ (@blk_of _ _ _ _ _ _ rfl (by kernel_rfl)) rfl (@pi_list _ _ _ _ (pv 5)) (fun _ _ _ _ => @pg_tupK _ (K) _ _ _ (2) _ rfl rfl (@pgs_cons _ _ _ _ _ (@pg_name _ _ (0) _ (show (["_law_place", "_law_other", "_law_row"] : List Str).Nodup from by decide +kernel) rfl (Or.inl rfl) (by first | exact .inl rfl | exact .inr rfl | assumption)) (@pgs_cons _ _ _ _ _ (@pg_name _ _ (1) _ (show (["_law_place", "_law_other", "_law_row"] : List Str).Nodup from by decide +kernel) rfl (Or.inl rfl) (by first | exact .inl rfl | exact .inr rfl | assumption)) pgs_nil (by rfl)) (by rfl)) (by rfl) (by rfl)) (fun _ _ _ _ => (@pifs_one _ _ _ (by exact (@pt_not _ _ _ _ (@pt_bl _ _ _ (@pe_fnTL _ E0 _ _ _ _ (s.toks) _ _ _ _ _ _ rfl F_right hr (by decide) passes_e0 rfl (@pa_cons _ _ _ _ _ (pv 2) (@pa_cons _ _ _ _ _ (pv 0) (@pa_cons _ _ _ _ _ (pv 1) pa_nil (by rfl)) (by rfl)) (by rfl)) (by decide) (by rfl) (by rfl)) (fun _ => rfl)))))) (fun _ _ _ _ => by (exact pe_int)) (by intro _ ; rfl)) (@pe_lst _ _ _ _ pa_nil) (nomark _)) (@pss_one _ _ _ (@ps_ret _ _ _ _ pe_bl)) pss_nil))))))) (by intro _ ; rfl)) (@pss_one _ _ _ (@ps_ret _ _ _ _ pe_bl)))), ?_⟩
    refine ⟨_, rfl, a, ns, rfl, hS, hlen, fun d H1 _ F1 s1 => ?_⟩
    refine ⟨_, rfl, by decide, by decide, for_range (lo := 0) (n := 4) (fun i σ H' => ∃ (b2 b3 b4 b5 b6 : Option V), σ = [some (.ref a), some (.ref d), b2, b3, b4, b5, b6] ∧ Fd H' d) ⟨none, none, none, none, none, rfl, F1⟩ ?_ ?_⟩
    rotate_left
    · rintro σ H2 ⟨b2, b3, b4, b5, b6, rfl, F2⟩
      exact k _
    rintro i σ H2 hi ⟨b2, b3, b4, b5, b6, rfl, F2⟩
    refine ⟨_, rfl, _, rfl, d, _, rfl, F2, by decide, by decide, fun r H3 r0 r1 F3 sb3 => ⟨_, _, rfl, rfl, ?_⟩⟩
    obtain ⟨m, rfl⟩ := Int.eq_ofNat_of_zero_le r0
    rw [show 1 + (m : Int) = ((m + 1 : Nat) : Int) by omega]
    refine ⟨d, m + 1, rfl, F3, by omega, by omega, fun u H4 R hall F4 sb4 => ?_⟩
    have hlu := R.len
    have lu := toS_length u
    refine ⟨_, rfl, _, rfl, _, rfl, toS u, rfl, by omega, _, _, rfl, rfl, _, rfl, toS u, rfl, by omega, _, _, rfl, rfl, _, rfl, toS u, rfl, by omega, _, _, rfl, rfl, ⟨by decide, by decide⟩, _, _, rfl, rfl, ⟨by decide, by decide⟩, _, rfl, (by show 8 ≤ sizeLine; omega), fun l1 hl1 => ?_⟩
    obtain ⟨FL, eF⟩ : ∃ F : List V, F = [.int (-1), .int (-2), .int (((toS u).length : Int) + 1), .int (((toS u).length : Int) + 2), .int ((toS u).length : Int), .int 0, .int (10 ^ (30 : Int).toNat), .int (-(10 ^ (30 : Int).toNat))] := ⟨_, rfl⟩
    have hF : ∀ z : Int, 0 ≤ z → z < 8 → ∃ y, atI FL z = some (.int y) := fun z h0 h8 => by
      rw [eF]
      rcases (show z = 0 ∨ z = 1 ∨ z = 2 ∨ z = 3 ∨ z = 4 ∨ z = 5 ∨ z = 6 ∨ z = 7 by omega) with rfl | rfl | rfl | rfl | rfl | rfl | rfl | rfl <;> exact ⟨_, rfl⟩
    rw [← eF]
    have F5 := F4.new (o := .lst FL) hl1
    have f5 : (upd H4 l1 (.lst FL)) l1 = some (.lst FL) := upd_same
    generalize upd H4 l1 (.lst FL) = H5 at F5 f5 ⊢
    refine ⟨_, rfl, by decide, by decide, ?_⟩
    refine comp_by (own := ["_law_turn"]) (cap := [1, 3]) (J := Itr 0 8) 8 (fun j ys σ H' => ∃ v : Option V, σ = [v, some (.ref d), some (tx u)] ∧ ys.length = j ∧ Prs H' ys ∧ Fd H' d ∧ SameB d H5 H') ⟨none, rfl, rfl, Prs.nil, F5, fun _ _ _ e => e⟩ (fun j ys σ H' hj ⟨_, _, e, _⟩ => by omega) (by omega) (fun j ys σ H' hj _ => hj) (fun ys σ H' _ => Nat.le_refl _) ?_ ?_
    · rintro j ys σ H6 x H7 N' hj ⟨v, rfl, hy, P6, F6, sb6⟩ ⟨rfl, rfl⟩ hN'
      refine ⟨_, rfl, _, rfl, toS u, rfl, by omega, _, _, rfl, rfl, d, _, rfl, F6, by omega, by omega, fun r1 H8 r10 r11 F8 sb8 => ?_⟩
      refine ⟨_, rfl, _, rfl, toS u, rfl, by omega, _, _, rfl, rfl, d, _, rfl, F8, by omega, by omega, fun r2 H9 r20 r21 F9 sb9 => ⟨(by show 2 ≤ sizeLine; omega), fun t ht => hN' _ _ _ ⟨_, rfl, (by rw [List.length_append, hy]; rfl), ?_, F9.new ht, ?_⟩⟩⟩
      · exact (((P6.sb F6 sb8).sb F8 sb9).same (Same.new ht)).app (Prs.one upd_same)
      · exact fun b o n e => Same.new ht _ _ (sb9 _ _ n (sb8 _ _ n (sb6 _ _ n e)))
    rintro ys1 σ H6 l5 ⟨v, rfl, hy1, P6, F6, sb6⟩ hl5
    have f6 := sb6 _ _ (F5.nl f5) f5
    have s7 : Same H6 (upd H6 l5 (.lst ys1)) := Same.new hl5
    have g7 : (upd H6 l5 (.lst ys1)) l5 = some (.lst ys1) := upd_same
    generalize upd H6 l5 (.lst ys1) = H7 at s7 g7 ⊢
    have P7 := P6.same s7
    have F7 := F6.same s7
    have f7 := s7 _ _ f6
    clear s7 f6 F6 P6 sb6
    refine ⟨_, rfl, _, rfl, by decide, by decide, ?_⟩
    refine comp_by (own := ["_law_turn"]) (cap := [4, 1]) (J := Itr 0 8) 8 (fun j ys σ H' => ∃ v : Option V, σ = [v, some (.ref l1), some (.ref d)] ∧ ys.length = j ∧ Prs H' ys ∧ Fd H' d ∧ SameB d H7 H') ⟨none, rfl, rfl, Prs.nil, F7, fun _ _ _ e => e⟩ (fun j ys σ H' hj ⟨_, _, e, _⟩ => by omega) (by omega) (fun j ys σ H' hj _ => hj) (fun ys σ H' _ => Nat.le_refl _) ?_ ?_
    · rintro j ys σ H8 x H8' N' hj ⟨v, rfl, hy, P8, F8, sb8⟩ ⟨rfl, rfl⟩ hN'
      refine ⟨_, rfl, _, rfl, d, _, rfl, F8, by decide, by decide, fun r1 H9 r10 r11 F9 sb9 => ?_⟩
      obtain ⟨z1, e1⟩ := hF r1 r10 r11
      have f9 := sb9 _ _ (F7.nl f7) (sb8 _ _ (F7.nl f7) f7)
      refine ⟨l1, FL, r1, _, rfl, rfl, SqL.of f9, e1, _, rfl, _, rfl, d, _, rfl, F9, by decide, by decide, fun r2 H10 r20 r21 F10 sb10 => ?_⟩
      obtain ⟨z2, e2⟩ := hF r2 r20 r21
      refine ⟨l1, FL, r2, _, rfl, rfl, SqL.of (sb10 _ _ (F7.nl f7) f9), e2, (by show 2 ≤ sizeLine; omega), fun t ht => hN' _ _ _ ⟨_, rfl, (by rw [List.length_append, hy]; rfl), ?_, F10.new ht, ?_⟩⟩
      · exact (((P8.sb F8 sb9).sb F9 sb10).same (Same.new ht)).app (Prs.one upd_same)
      · exact fun b o n e => Same.new ht _ _ (sb10 _ _ n (sb9 _ _ n (sb8 _ _ n e)))
    rintro ys2 σ H8 l6 ⟨v, rfl, hy2, P8, F8, sb8⟩ hl6
    have s9 : Same H8 (upd H8 l6 (.lst ys2)) := Same.new hl6
    have g9 : (upd H8 l6 (.lst ys2)) l6 = some (.lst ys2) := upd_same
    generalize upd H8 l6 (.lst ys2) = H9 at s9 g9 ⊢
    refine ⟨l5, l6, ys1, ys2, rfl, rfl, s9 _ _ (sb8 _ _ (F7.nl g7) g7), g9, (by rw [hy1, hy2]; show 16 ≤ sizeLine; omega), fun l7 hl7 => ?_⟩
    have P9 := ((((P7.sb F7 sb8).same s9).app (P8.same s9)).same (Same.new (o := .lst (ys1 ++ ys2)) hl7))
    have F9 := (F8.same s9).new (o := .lst (ys1 ++ ys2)) hl7
    have g10 : (upd H9 l7 (.lst (ys1 ++ ys2))) l7 = some (.lst (ys1 ++ ys2)) := upd_same
    have hy : (ys1 ++ ys2).length = 16 := by rw [List.length_append, hy1, hy2]
    generalize upd H9 l7 (.lst (ys1 ++ ys2)) = H10 at P9 F9 g10 ⊢
    generalize ys1 ++ ys2 = xs at P9 g10 hy ⊢
    clear s9 sb8 P8 F8 g9 P7 F7 f7 g7
    refine ⟨_, rfl, toS u, rfl, by omega, _, _, rfl, rfl, _, rfl, toS u, rfl, by omega, _, _, rfl, rfl, .inr ⟨_, rfl, ?_⟩⟩
    obtain ⟨K5, eK, hK⟩ : ∃ K5 : Nat, (((toS u).length : Int) + 1) * (if decide (((toS u).length : Int) < 5) = true then 1 else 0) = (K5 : Int) ∧ K5 ≤ 5 := by
      by_cases h5 : ((toS u).length : Int) < 5
      · exact ⟨(toS u).length + 1, by rw [if_pos (decide_eq_true h5)]; omega, by omega⟩
      · exact ⟨0, by rw [if_neg (by simp [h5])]; omega, by decide⟩
    refine ⟨_, _, rfl, rfl, .inl ⟨by omega, by omega⟩, ?_⟩
    rw [eK]
    refine ⟨_, rfl, by omega, by omega, ?_⟩
    rw [Int.toNat_natCast]
    refine for_range (lo := 0) (n := K5) (fun j σ H' => ∃ (b6 : Option V) (xs : List V), σ = [some (.ref a), some (.ref d), some (.int (0 + (i : Int))), some (tx u), some (.ref l1), some (.ref l7), b6] ∧ H' l7 = some (.lst xs) ∧ Prs H' xs ∧ xs.length = 16 + (u.length + 2) * j ∧ Fd H' d) ⟨_, xs, rfl, g10, P9, by rw [hy, Nat.mul_zero], F9⟩ ?_ ?_
    · rintro j σ H11 hj ⟨b6', xs', rfl, g11, P11, hl11, F11⟩
      have hj5 : (u.length + 2) * j ≤ 14 * 5 := Nat.mul_le_mul (by omega) (by omega)
      refine ⟨_, rfl, .inl ⟨rfl, _, SqL.of g11⟩, ?_⟩
      refine ⟨_, rfl, toS u, rfl, by omega, _, _, rfl, rfl, _, rfl, by omega, by omega, ?_⟩
      have e2 : (((toS u).length : Int) + 2).toNat = u.length + 2 := by omega
      rw [e2]
      refine comp_by (own := ["_law_other"]) (cap := [6]) (J := Itr 0 (u.length + 2)) (u.length + 2) (fun jj ys σ H' => ∃ v : Option V, σ = [v, some (.int (0 + (j : Int)))] ∧ ys.length = jj ∧ Prs H' ys ∧ Same H11 H') ⟨none, rfl, rfl, Prs.nil, Same.refl _⟩ (fun jj ys σ H' hj ⟨_, _, e, _⟩ => by omega) (by omega) (fun jj ys σ H' hj _ => hj) (fun ys σ H' _ => Nat.le_refl _) ?_ ?_
      · rintro jj ys σ H12 x H13 N' hjj ⟨v, rfl, hyy, P12, s12⟩ ⟨rfl, rfl⟩ hN'
        exact ⟨_, rfl, _, rfl, (by show 2 ≤ sizeLine; omega), fun t ht => hN' _ _ _ ⟨_, rfl, (by rw [List.length_append, hyy]; rfl), (P12.same (Same.new ht)).app (Prs.one upd_same), s12.then ht⟩⟩
      rintro ys σ H12 l8 ⟨v, rfl, hyy, P12, s12⟩ hl8
      have s13 := s12.then (o := .lst ys) hl8
      have P13 := P12.same (Same.new (o := .lst ys) hl8)
      have g13 : (upd H12 l8 (.lst ys)) l8 = some (.lst ys) := upd_same
      generalize upd H12 l8 (.lst ys) = H13 at s13 P13 g13 ⊢
      have gl7 := s13 _ _ g11
      obtain ⟨p0, hp0⟩ := P11.has (by omega)
      refine ⟨l7, l8, xs', ys, rfl, rfl, gl7, g13, (by rw [hl11, hyy]; omega), ?_⟩
      refine ⟨_, xs' ++ ys, rfl, upd_same, ((P11.same s13).app P13).own gl7, ?_, fd_own7 (F11.same s13) gl7 hp0⟩
      rw [List.length_append, hl11, hyy, Nat.mul_succ]
      omega
    rintro σ H11 ⟨b6', xs', rfl, g11, P11, hl11, F11⟩
    have hj5 : (u.length + 2) * K5 ≤ 14 * 5 := Nat.mul_le_mul (by omega) (by omega)
    refine ⟨_, rfl, l7, rfl, ⟨_, SqL.of g11⟩, ?_⟩
    refine comp_list (K := K) (a := l7) (own := ["_law_place", "_law_other"]) (cap := [3]) (xs := xs') (fun j ys σ H' => ∃ v1 v2 : Option V, σ = [v1, v2, some (tx u)] ∧ ys = [] ∧ Same H11 H') ⟨none, none, rfl, rfl, Same.refl _⟩ (fun j ys σ H' _ ⟨_, _, _, e, _⟩ => by rw [e]; exact Nat.zero_le _) (by rw [hl11]; omega) (fun j ys σ H' ⟨_, _, _, _, s⟩ => SqL.of (s _ _ g11)) ?_ ?_
    · rintro j ys σ H12 x N' hx ⟨v1, v2, rfl, rfl, s12⟩ hN'
      obtain ⟨t, p, q, rfl, ht⟩ := P11 x (List.mem_of_getElem? hx)
      refine ⟨t, _, rfl, SqT.of (s12 _ _ ht), rfl, _, _, rfl, _, _, rfl, rfl, ?_⟩
      refine ⟨_, rfl, _, rfl, _, rfl, fun n hn => ⟨u, m + 1, p, q, rfl, hN0, Nat.le_trans hN hn, R, by omega, by omega, fun H' s' => ⟨_, rfl, nkT ?_⟩⟩⟩
      exact hN' _ _ _ ⟨_, _, rfl, rfl, s12.trans s'⟩
    · rintro ys σ H12 l8 ⟨v1, v2, rfl, rfl, s12⟩ hl8
      have s13 := s12.then (o := .lst []) hl8
      have g13 : (upd H12 l8 (.lst [])) l8 = some (.lst []) := upd_same
      generalize upd H12 l8 (.lst []) = H13 at s13 g13 ⊢
      refine ⟨(by show 0 ≤ sizeLine; omega), fun l9 hl9 => ⟨l8, l9, _, rfl, rfl, Same.new hl9 _ _ g13, upd_same, _, rfl, ifsF ?_⟩⟩
      exact ⟨_, _, _, _, _, rfl, F11.same (s13.then (o := .lst []) hl9)⟩
end
end Kx
set_option Elab.async false
set_option linter.all false
set_option maxRecDepth 100000
set_option maxHeartbeats 0
namespace Kx
open PySem PySem.Spec PyProof.Rows L2 Wd
theorem signs_ones7 (W : List L) : L2.signs (toS W) = (W.map fun x => [x]).map tx := by
  unfold L2.signs
  rw [toS_cps, List.map_map, List.map_map]
  rfl
theorem in_str7 (z : Str) (F : List (List L)) : inV (.str z) (F.map tx) = decide (z ∈ F.map toS) := by
  unfold inV
  by_cases h : z ∈ F.map toS
  · rw [decide_eq_true h, List.any_eq_true]
    obtain ⟨v, hv, rfl⟩ := List.mem_map.mp h
    exact ⟨tx v, List.mem_map.mpr ⟨v, hv, rfl⟩, by simp [tx, eqV]⟩
  · rw [decide_eq_false h, List.any_eq_false]
    intro x hx
    obtain ⟨u, hu, rfl⟩ := List.mem_map.mp hx
    have : toS u ≠ z := fun e => h (List.mem_map.mpr ⟨u, hu, e⟩)
    simp [tx, eqV, this]
theorem flat7 (F : List (List L)) : (F.map tx).all flatV = true := by
  rw [List.all_eq_true]
  intro x hx
  obtain ⟨v, _, rfl⟩ := List.mem_map.mp hx
  rfl
theorem mem_sml7 : ∀ (k : Fin 7) (x : L), x ∈ sml (k.val : Int) ↔ (x.val < k.val ∧ x.val < 6) := by
  unfold sml
  decide
section
variable {P : Program} {w : World} {K : PySem.W.Frag} {mg : Str → Option Value} {base : Heap} {aB : Addr}
noncomputable abbrev s_cut : Stmt := top 19
theorem sc_cut : FnScope ["surface", "letter"] ["surface", "letter"] (defScope s_cut) := ⟨rfl, rfl, rfl, by decide +kernel, rfl, by decide +kernel, by decide +kernel⟩
theorem c_cut {N : Nat} {CB : Addr} (D : Df K mg "cut" s_cut) (T : Bt K w mg aB) (M_band : XMk P w K mg base "NoBand" CB ["letter"] 1) (F_let : Fnc P w K mg base "letters_of" ["surface"] 1 spLet0) (F_backT : Fnc P w K mg base "back" ["word"] 1 (spBk1 N)) (F_lowd : Fnc P w K mg base "lowered" ["letter", "word"] 3 spLowered) : FncT P w K mg base "cut" ["surface", "letter"] 4 (spCutX CB N) := by
  have sc := sc_cut
  refine D.okT sc (fun _ _ _ _ _ _ us hl => by obtain ⟨_, _, rfl⟩ := len2 hl; rfl) (fun n vs H Q E h => ?_) (fun f cdv A outer s H vs Q E hr h => ?_)
  · obtain ⟨u, z, y, rfl, _⟩ := h
    rfl
  · obtain ⟨u, z, y, rfl, ey, hN, u2, u14, hz, kY, kN⟩ := h
    have l16 := line16
    refine ⟨_, (@pss_cons _ _ _ _ _ (@ps_if _ _ _ _ _ _ _ _ (@PW.pt _ _ _ (@pw_or _ _ _ _ _ _ _ (@pt_cmpR _ _ _ _ _ _ _ _ op_eq (@pe_callB _ _ _ _ _ _ _ _ _ call_len_str (by rfl) T.len PySem.boot_len (@pa_cons _ _ _ _ _ (pv 0) pa_nil (by rfl)) (by decide) (by decide) (by rfl) (by rfl)) pe_int (nomark _)) (@pw_or1 _ _ _ _ (@pt_cmpR _ _ _ _ _ _ _ _ (@op_notIn_K _ (K) rfl) (@pe_wk _ _ _ (pv 1)) (@pe_callTy _ _ _ _ _ _ _ _ _ (@call_list_signs _ rfl) (by rfl) T.list b_list (@pa_cons _ _ _ _ _ (@pe_fn _ _ _ _ _ _ _ _ _ _ _ F_let hr (by decide) rfl (@pa_cons _ _ _ _ _ (pv 0) pa_nil (by rfl)) (by decide) (by rfl) (by rfl)) pa_nil (by rfl)) (by decide) (by decide) (by rfl) (by rfl)) rfl)))) (@pss_one _ _ _ (@ps_raiseX _ _ _ _ _ raises_def rfl (@pe_mk _ _ _ _ _ _ _ _ _ _ _ M_band hr (by decide) rfl (@pa_cons _ _ _ _ _ (@pe_wk _ _ _ (pv 1)) pa_nil (by rfl)) (by decide) (by rfl) (by rfl)))) pss_nil) (@pss_one _ _ _ (@ps_ret _ _ _ _ (@pe_fn _ _ _ _ _ _ _ _ _ _ _ F_lowd hr (by decide) rfl (@pa_cons _ _ _ _ _ (@pe_wk _ _ _ (pv 1)) (@pa_cons _ _ _ _ _ (@pe_strike _ _ _ _ _ _ _ _ _ (@pe_strike _ _ _ _ _ _ _ _ _ (pv 0) (pv 1) (by rfl) (by rfl) (by rfl) (by rfl)) (@pe_fn _ _ _ _ _ _ _ _ _ _ _ F_backT hr (by decide) rfl (@pa_cons _ _ _ _ _ (@pe_wk _ _ _ (pv 1)) pa_nil (by rfl)) (by decide) (by rfl) (by rfl)) (by rfl) (by rfl) (by rfl) (by rfl)) pa_nil (by rfl)) (by rfl)) (by decide) (by rfl) (by rfl))))), ?_⟩
    have lu := toS_length u
    have e2 : decide (V.int ((toS u).length : Int) = V.int 2) = decide (u.length = 2) := by
      rw [lu]
      by_cases h : u.length = 2
      · rw [decide_eq_true h, h]; rfl
      · rw [decide_eq_false h]; exact decide_eq_false fun q => h (by have := V.int.inj q; omega)
    refine ⟨_, rfl, toS u, rfl, by omega, rfl, _, rfl, ?_⟩
    rw [e2]
    have raise : ∀ H1, Same H H1 → (u.length = 2 ∨ ∀ x : L, x.val < u.length / 2 → x.val < 6 → z ≠ toS [x]) → sRaise (cxOf (CXe P w) P w K mg base ["surface", "letter"] (Str.ofString "cut") (defScope s_cut) f cdv A outer s H E).K (tNewX CB [Str.ofString "letter"] (tCons (tWk (tVar 1)) tNil)) E { nx := fun _ H' => Q .non H', rt := Q } [some (tx u), some y] H1 := fun H1 s1 hc =>
      ⟨_, rfl, rfl, by decide, fun b dx hb hd ne => ⟨b, CB, some dx, true, rfl, by rw [upd_ne ne.symm, upd_same], M_band.ca.1, kN hc b _ (ey ▸ new_x1 hb hd ne) (s1.trans (new_sameS hb hd))⟩⟩
    by_cases h2 : u.length = 2
    · rw [decide_eq_true h2]
      refine orkT (ifsT ?_)
      exact raise H (Same.refl _) (.inl h2)
    rw [decide_eq_false h2]
    refine orkF ?_
    refine ⟨_, rfl, _, rfl, toS u, u.length / 2, rfl, by rw [lu], by omega, by omega, _, rfl, ?_, fun p hp => ?_⟩
    · rw [toS_length]; have := sml_length (m := ((u.length / 2 : Nat) : Int)); omega
    rw [signs_ones7]
    refine ⟨p, _, rfl, .inl (SqL.of upd_same), ?_, flat7 _, ?_⟩
    · rw [ey]; rfl
    rw [ey, in_str7]
    have hm : z ∈ (((sml ((u.length / 2 : Nat) : Int)).map fun x => [x]).map toS) ↔ ∃ x : L, x.val < u.length / 2 ∧ x.val < 6 ∧ z = toS [x] := by
      rw [List.map_map, List.mem_map]
      constructor
      · rintro ⟨x, hx, rfl⟩
        obtain ⟨h1, h2⟩ := (mem_sml7 ⟨u.length / 2, by omega⟩ x).mp hx
        exact ⟨x, h1, h2, rfl⟩
      · rintro ⟨x, h1, h2, rfl⟩
        exact ⟨x, (mem_sml7 ⟨u.length / 2, by omega⟩ x).mpr ⟨h1, h2⟩, rfl⟩
    by_cases hc : ∃ x : L, x.val < u.length / 2 ∧ x.val < 6 ∧ z = toS [x]
    · rw [decide_eq_true (hm.mpr hc)]
      refine ⟨_, rfl, ifsF ?_⟩
      obtain ⟨x, hx, hx6, rfl⟩ := hc
      obtain ⟨⟨t, rfl, t0, tn⟩, kq⟩ := kY x h2 hx hx6 rfl
      refine ⟨_, rfl, _, rfl, _, rfl, by omega, _, rfl, cp x, t, rfl, t0, tn, ?_⟩
      rw [strike_toS]
      have l1 := List.length_filter_le (fun y => decide (y ≠ x)) u
      refine ⟨_, rfl, by rw [toS_length]; omega, _, rfl, x, rfl, fun tb H2 b0 bN s2 => ⟨cp (inv x), tb, rfl, b0, Nat.lt_of_lt_of_le bN hN, ?_⟩⟩
      rw [strike_toS]
      have l2 := List.length_filter_le (fun y => decide (y ≠ inv x)) (u.filter fun y => decide (y ≠ x))
      refine ⟨x, _, rfl, by omega, fun y hy => ?_, fun H3 s3 => kq H3 ((Same.new hp).trans (s2.trans s3))⟩
      obtain ⟨hy1, hy2⟩ := List.mem_filter.mp hy
      obtain ⟨_, hy3⟩ := List.mem_filter.mp hy1
      have : ∀ x y : L, y ≠ x → y ≠ inv x → y.val % 6 ≠ x.val % 6 := by decide
      exact this x y (of_decide_eq_true hy3) (of_decide_eq_true hy2)
    · rw [decide_eq_false fun q => hc (hm.mp q)]
      refine ⟨_, rfl, ifsT ?_⟩
      exact raise _ (Same.new hp) (.inr fun x h1 h6 e => hc ⟨x, h1, h6, e⟩)
end
end Kx
set_option Elab.async false
set_option linter.all false
set_option maxRecDepth 100000
set_option maxHeartbeats 0
namespace Kx
open PySem PySem.Spec PyProof.Rows L2 Wd
section
variable {P : Program} {w : World} {K : PySem.W.Frag} {mg : Str → Option Value} {base : Heap} {aB : Addr}
noncomputable def cmem (st : Stmt) (j : Nat) : Stmt := match st with | .ClassDef (body := b) .. => b.getD j (.Pass ⟨0, 0, 0, 0⟩) | _ => .Pass ⟨0, 0, 0, 0⟩
noncomputable abbrev i_slide : Stmt := cmem (top 4) 0
theorem sc_islide : FnScope ["self", "place"] ["self", "place"] (defScope i_slide) := ⟨rfl, rfl, rfl, by decide +kernel, rfl, by decide +kernel, by decide +kernel⟩
theorem c_islide {R C f : Addr} {fd : FuncData} (D : Fun K "__init__" "NoSlide.__init__" i_slide f fd) (B : XBase K R) (hR : mg "RingError" = some (.ref R)) (x : XAt K C) (n0 : PySem.W.findIn K (.ref C) "place" = some none) :
    Binds K fd ["self", "place"] [] ∧ FnOk P w K mg base CX0 1 f fd ["self", "place"] (spInit ["place"] C) := by
  have sc := sc_islide
  refine ⟨D.binds fun _ _ _ _ _ _ us hl => match us, hl with | [_, _], _ => rfl, D.ok sc (fun vs H Q E h => ?_) (fun cdv A outer s H vs Q E hr h => ?_)⟩
  · obtain ⟨a, ys, b, c, rfl, hl, _⟩ := h
    rw [List.length_cons, hl]; rfl
  · obtain ⟨a, ys, b, c, rfl, hl, ea, k⟩ := h
    match ys, hl with
    | [y], _ =>
    refine ⟨_, (@pss_cons _ _ _ _ _ (@ps_expr _ _ _ _ (@pe_initX _ _ _ _ _ _ _ _ _ _ B rfl hR (@pa_cons _ _ _ _ _ (pv 0) (@pa_cons _ _ _ _ _ pe_str pa_nil (by rfl)) (by rfl)) (by decide) (by rfl) (by rfl) (by rfl)) (by rfl))
      (@pss_one _ _ _ (@ps_fx0 _ _ _ _ _ _ _ _ (pv 0) (pv 1) (by rfl)))), ?_⟩
    refine ⟨_, rfl, a, C, none, b, c, [_], rfl, by simp, ea, x, ?_⟩
    refine ⟨_, rfl, _, rfl, a, C, b, c, rfl, ea, x, n0, fun dx hdx ne => ?_⟩
    exact k dx hdx ne
end
section
variable {P : Program} {w : World} {K : PySem.W.Frag} {mg : Str → Option Value} {base : Heap} {aB : Addr}
noncomputable abbrev i_band : Stmt := cmem (top 6) 0
theorem sc_iband : FnScope ["self", "letter"] ["self", "letter"] (defScope i_band) := ⟨rfl, rfl, rfl, by decide +kernel, rfl, by decide +kernel, by decide +kernel⟩
theorem c_iband {R C f : Addr} {fd : FuncData} (D : Fun K "__init__" "NoBand.__init__" i_band f fd) (B : XBase K R) (hR : mg "RingError" = some (.ref R)) (x : XAt K C) (n0 : PySem.W.findIn K (.ref C) "letter" = some none) :
    Binds K fd ["self", "letter"] [] ∧ FnOk P w K mg base CX0 1 f fd ["self", "letter"] (spInit ["letter"] C) := by
  have sc := sc_iband
  refine ⟨D.binds fun _ _ _ _ _ _ us hl => match us, hl with | [_, _], _ => rfl, D.ok sc (fun vs H Q E h => ?_) (fun cdv A outer s H vs Q E hr h => ?_)⟩
  · obtain ⟨a, ys, b, c, rfl, hl, _⟩ := h
    rw [List.length_cons, hl]; rfl
  · obtain ⟨a, ys, b, c, rfl, hl, ea, k⟩ := h
    match ys, hl with
    | [y], _ =>
    refine ⟨_, (@pss_cons _ _ _ _ _ (@ps_expr _ _ _ _ (@pe_initX _ _ _ _ _ _ _ _ _ _ B rfl hR (@pa_cons _ _ _ _ _ (pv 0) (@pa_cons _ _ _ _ _ pe_str pa_nil (by rfl)) (by rfl)) (by decide) (by rfl) (by rfl) (by rfl)) (by rfl))
      (@pss_one _ _ _ (@ps_fx0 _ _ _ _ _ _ _ _ (pv 0) (pv 1) (by rfl)))), ?_⟩
    refine ⟨_, rfl, a, C, none, b, c, [_], rfl, by simp, ea, x, ?_⟩
    refine ⟨_, rfl, _, rfl, a, C, b, c, rfl, ea, x, n0, fun dx hdx ne => ?_⟩
    exact k dx hdx ne
end
end Kx
set_option Elab.async false
set_option linter.all false
set_option maxRecDepth 100000
set_option maxHeartbeats 0
namespace Kx
open PySem PySem.Spec PyProof.Rows L2 Wd
theorem df_mk {K : PySem.W.Frag} {h : Heap} {mg : Str → Option Value} {x : Str} {st : Stmt} {f : Addr} {oc : Value} {od an : Option Addr} {osl : Array (Option Value)} {kV doc pm cdv ct : Value} (X : K.In h) (G : h.Ns mainGlobals mg) (a : PySem.W.nsIn K mainGlobals x = some (some (.ref f)))
    (l : K.lookup f = some ⟨oc, od, .func (PySem.W.fnOf x x (defArgs st) (defBody st) (defScope st) .none kV doc pm an cdv ct), osl⟩) (c : PySem.W.codeIn K cdv x = true) (k : PySem.W.keepIn K (.ref f) = true) : Df K mg x st := ⟨f, _, PySem.W.mg_of X G a, fun_mk l c k⟩
inductive DI (K : PySem.W.Frag) (x : Str) (st : Stmt) : Prop
  | mk {f : Addr} {oc : Value} {od an : Option Addr} {osl : Array (Option Value)} {kV doc pm cdv ct : Value} (a : PySem.W.nsIn K mainGlobals x = some (some (.ref f))) (l : K.lookup f = some ⟨oc, od, .func (PySem.W.fnOf x x (defArgs st) (defBody st) (defScope st) .none kV doc pm an cdv ct), osl⟩) (c : PySem.W.codeIn K cdv x = true) (k : PySem.W.keepIn K (.ref f) = true) : DI K x st
theorem DI.df {K : PySem.W.Frag} {h : Heap} {mg : Str → Option Value} {x : Str} {st : Stmt} (d : DI K x st) (X : K.In h) (G : h.Ns mainGlobals mg) : Df K mg x st := by
  cases d with
  | mk a l c k => exact df_mk X G a l c k
inductive DL where
  | n
  | c (x : Str) (st : Stmt) (r : DL)
noncomputable def DIs (K : PySem.W.Frag) : DL → Prop
  | .n => True
  | .c x st r => DI K x st ∧ DIs K r
theorem DIs.on {K : PySem.W.Frag} {x : Str} {st : Stmt} {r : DL} {f : Addr} {oc : Value} {od an : Option Addr} {osl : Array (Option Value)} {kV doc pm cdv ct : Value} (a : PySem.W.nsIn K mainGlobals x = some (some (.ref f))) (l : K.lookup f = some ⟨oc, od, .func (PySem.W.fnOf x x (defArgs st) (defBody st) (defScope st) .none kV doc pm an cdv ct), osl⟩) (c : PySem.W.codeIn K cdv x = true) (k : PySem.W.keepIn K (.ref f) = true) (hr : DIs K r) : DIs K (.c x st r) := ⟨.mk a l c k, hr⟩
theorem all_mk {l : PySem.W.OpenLaw} {w : World} {K : PySem.W.Frag} {h : Heap} {mg : Str → Option Value} {fa : Addr} (X : K.In h) (G : h.Ns mainGlobals mg) (hfa : mg "law" = some (.ref fa))
    {f15 : Addr} {od15 an15 : Option Addr} {sl15 : Array (Option Value)} {oc15 kV15 dc15 pm15 cd15 ct15 : Value} {N : Nat} {aB : Addr} {es : Array DictEntry} {en : Nat} {tS : Tok} {tE : Tok}  {CR : Addr} {ddCR : Option Addr} {cdCR : ClassData} {sCR0 sCR1 sCR2 sCR3 sCR5 : Option Value}         {nsCR : Addr} {onCR : Value} {dnCR : Option Addr} {esCR : Array DictEntry} {nnCR : Nat} {snCR : Array (Option Value)}         {CT : Addr} {ddCT : Option Addr} {cdCT : ClassData} {sCT0 sCT1 sCT2 sCT3 sCT5 : Option Value}          {fCT : Addr} {ocCT kVCT dcCT pmCT cvCT ctCT : Value} {odCT anCT : Option Addr} {slCT : Array (Option Value)}    {CB : Addr} {ddCB : Option Addr} {cdCB : ClassData} {sCB0 sCB1 sCB2 sCB3 sCB5 : Option Value}          {fCB : Addr} {ocCB kVCB dcCB pmCB cvCB ctCB : Value} {odCB anCB : Option Addr} {slCB : Array (Option Value)}    {ck0 : Addr} {ck1 : Addr} {ck2 : Addr} {ck3 : Addr} {ck4 : Addr} {dk0 : Option Addr} {xk0 : ClassData} {sk0 : Array (Option Value)}   {dk1 : Option Addr} {xk1 : ClassData} {sk1 : Array (Option Value)}   {dk2 : Option Addr} {xk2 : ClassData} {sk2 : Array (Option Value)}   {dk3 : Option Addr} {xk3 : ClassData} {sk3 : Array (Option Value)}   {dk4 : Option Addr} {xk4 : ClassData} {sk4 : Array (Option Value)}     {t0 t1 t2 t3 t4 t5 t6 t7 t8 t9 t10 t11 : Tok}
    (hs : DIs K (.c "number_of" s_num <| .c "back" s_back <| .c "is_surface" s_issurf <| .c "letters_of" s_let <| .c "cut" s_cut <| .c "lowered" s_lowd <| .c "lower_letter" s_low <| .c "glued" s_glued <| .c "put_in" s_put <| .c "_law_feed" s_feed <| .c "_law_draw" s_draw <| .c "_law_surface" s_surf <| .c "_law_told" s_told <| .c "_law_due" s_due <| .c "_law_right" s_right <| .n))
    (a15 : PySem.W.nsIn K mainGlobals "law" = some (some (.ref f15)))
    (l15 : K.lookup f15 = some ⟨oc15, od15, .func (PySem.W.fnOf "law" "law" (defArgs s_law) (defBody s_law) (defScope s_law) .none kV15 dc15 pm15 an15 cd15 ct15), sl15⟩)
    (c15 : PySem.W.codeIn K cd15 "law" = true)
    (k15 : PySem.W.keepIn K (.ref f15) = true)
    (z_len : PySem.W.nsIn K mainGlobals "len" = some none)
    (z_repr : PySem.W.nsIn K mainGlobals "repr" = some none)
    (z_abs : PySem.W.nsIn K mainGlobals "abs" = some none)
    (z_max : PySem.W.nsIn K mainGlobals "max" = some none)
    (z_int : PySem.W.nsIn K mainGlobals "int" = some none)
    (z_list : PySem.W.nsIn K mainGlobals "list" = some none)
    (z_range : PySem.W.nsIn K mainGlobals "range" = some none)
    (z_reversed : PySem.W.nsIn K mainGlobals "reversed" = some none)
    (z_min : PySem.W.nsIn K mainGlobals "min" = some none)
    (z_sorted : PySem.W.nsIn K mainGlobals "sorted" = some none)
    (z_tuple : PySem.W.nsIn K mainGlobals "tuple" = some none)
    (z_isinstance : PySem.W.nsIn K mainGlobals "isinstance" = some none)
    (z_all : PySem.W.nsIn K mainGlobals "all" = some none)
    (z_str : PySem.W.nsIn K mainGlobals "str" = some none)
    (z_zip : PySem.W.nsIn K mainGlobals "zip" = some none)
    (aBk : PySem.W.nsIn K mainGlobals "BACKS" = some (some (.ref aB)))
    (lB : K.lookup aB = some ⟨.type "dict", none, .dict es en, #[]⟩)
    (kB : PySem.W.KeysLit w.params es.toList)
    (aS : PySem.W.nsIn K mainGlobals "SMALL" = some (some (.str "abcdef" tS)))
    (aE : PySem.W.nsIn K mainGlobals "MOST_ENDS" = some (some (.int 12 tE)))
    (zV : PySem.W.nsIn K mainGlobals "ValueError" = some none)
    (aCR : PySem.W.nsIn K mainGlobals "RingError" = some (some (.ref CR)))
    (lCR : K.lookup CR = some ⟨.type "type", ddCR, .cls cdCR, #[sCR0, sCR1, sCR2, sCR3, some (.builtin "ValueError.__new__"), sCR5]⟩)
    (mCR : cdCR.mro = .ref CR :: bmV)
    (eCR : cdCR.hasDel = false)
    (dCR : cdCR.hasDict = true)
    (kCR : PySem.W.keepIn K (.ref CR) = true)
    (saCR : PySem.W.findIn K (.ref CR) "__setattr__" = some (some (.builtin "object.__setattr__")))
    (gaCR : PySem.W.findIn K (.ref CR) "__getattribute__" = some (some (.builtin "BaseException.__getattribute__")))
    (gnCR : PySem.W.findIn K (.ref CR) "__getattr__" = some (none))
    (caCR : PySem.W.findIn K (.ref CR) "__class__" = some (some (.builtin "object.__class__")))
    (nCR : cdCR.ns = nsCR)
    (oCR : K.lookup nsCR = some ⟨onCR, dnCR, .dict esCR nnCR, snCR⟩)
    (pCR : (esCR.toList.all fun e => match e.key with | .str _ _ => true | _ => false) = true)
    (qCR : PySem.W.nsIn K nsCR "__init__" = some none)
    (rdCR : PySem.W.readsIn K CR (.type "type") = true)
    (atCR : PySem.W.findCls K (.ref CR) (.type "type") "__init__" = some (.val (.builtin "ValueError.__init__")))
    (gtCR : PySem.W.specialIn K (.ref CR) "__getattribute__" = some (some (.builtin "type.__getattribute__")))
    (hdI : PySem.W.handedIn (.builtin "ValueError.__init__") = true)
    (cgt : PySem.W.specialIn K (.builtin "object.__class__") "__get__" = some (some (.builtin "getset_descriptor.__get__")))
    (ctk : PySem.W.takesIn K (.builtin "object.__class__") = some true)
    (aCT : PySem.W.nsIn K mainGlobals "NoSlide" = some (some (.ref CT)))
    (lCT : K.lookup CT = some ⟨.type "type", ddCT, .cls cdCT, #[sCT0, sCT1, sCT2, sCT3, some (.builtin "ValueError.__new__"), sCT5]⟩)
    (mCT : cdCT.mro = .ref CT :: .ref CR :: bmV)
    (eCT : cdCT.hasDel = false)
    (dCT : cdCT.hasDict = true)
    (kCT : PySem.W.keepIn K (.ref CT) = true)
    (saCT : PySem.W.findIn K (.ref CT) "__setattr__" = some (some (.builtin "object.__setattr__")))
    (gaCT : PySem.W.findIn K (.ref CT) "__getattribute__" = some (some (.builtin "BaseException.__getattribute__")))
    (gnCT : PySem.W.findIn K (.ref CT) "__getattr__" = some (none))
    (caCT : PySem.W.findIn K (.ref CT) "__class__" = some (some (.builtin "object.__class__")))
    (xCT0 : PySem.W.findIn K (.ref CT) "place" = some none)
    (iCT : PySem.W.findIn K (.ref CT) "__init__" = some (some (.ref fCT)))
    (uCT : K.lookup fCT = some ⟨ocCT, odCT, .func (PySem.W.fnOf "__init__" "NoSlide.__init__" (defArgs i_slide) (defBody i_slide) (defScope i_slide) .none kVCT dcCT pmCT anCT cvCT ctCT), slCT⟩)
    (vCT : PySem.W.codeIn K cvCT "NoSlide.__init__" = true)
    (wCT : PySem.W.keepIn K (.ref fCT) = true)
    (jCT : PySem.W.isFn K (.ref fCT) = true)
    (aCB : PySem.W.nsIn K mainGlobals "NoBand" = some (some (.ref CB)))
    (lCB : K.lookup CB = some ⟨.type "type", ddCB, .cls cdCB, #[sCB0, sCB1, sCB2, sCB3, some (.builtin "ValueError.__new__"), sCB5]⟩)
    (mCB : cdCB.mro = .ref CB :: .ref CR :: bmV)
    (eCB : cdCB.hasDel = false)
    (dCB : cdCB.hasDict = true)
    (kCB : PySem.W.keepIn K (.ref CB) = true)
    (saCB : PySem.W.findIn K (.ref CB) "__setattr__" = some (some (.builtin "object.__setattr__")))
    (gaCB : PySem.W.findIn K (.ref CB) "__getattribute__" = some (some (.builtin "BaseException.__getattribute__")))
    (gnCB : PySem.W.findIn K (.ref CB) "__getattr__" = some (none))
    (caCB : PySem.W.findIn K (.ref CB) "__class__" = some (some (.builtin "object.__class__")))
    (xCB0 : PySem.W.findIn K (.ref CB) "letter" = some none)
    (iCB : PySem.W.findIn K (.ref CB) "__init__" = some (some (.ref fCB)))
    (uCB : K.lookup fCB = some ⟨ocCB, odCB, .func (PySem.W.fnOf "__init__" "NoBand.__init__" (defArgs i_band) (defBody i_band) (defScope i_band) .none kVCB dcCB pmCB anCB cvCB ctCB), slCB⟩)
    (vCB : PySem.W.codeIn K cvCB "NoBand.__init__" = true)
    (wCB : PySem.W.keepIn K (.ref fCB) = true)
    (jCB : PySem.W.isFn K (.ref fCB) = true)
    (ak0 : PySem.W.nsIn K mainGlobals "NoRow" = some (some (.ref ck0)))
    (ak1 : PySem.W.nsIn K mainGlobals "NoPaper" = some (some (.ref ck1)))
    (ak2 : PySem.W.nsIn K mainGlobals "NoStep" = some (some (.ref ck2)))
    (ak3 : PySem.W.nsIn K mainGlobals "NoSurface" = some (some (.ref ck3)))
    (ak4 : PySem.W.nsIn K mainGlobals "NoWay" = some (some (.ref ck4)))
    (lk0 : K.lookup ck0 = some ⟨.type "type", dk0, .cls xk0, sk0⟩)
    (nk0 : (Value.ref CB :: .ref CR :: bmV).contains (.ref ck0) = false)
    (mk0 : (Value.ref CT :: .ref CR :: bmV).contains (.ref ck0) = false)
    (lk1 : K.lookup ck1 = some ⟨.type "type", dk1, .cls xk1, sk1⟩)
    (nk1 : (Value.ref CB :: .ref CR :: bmV).contains (.ref ck1) = false)
    (mk1 : (Value.ref CT :: .ref CR :: bmV).contains (.ref ck1) = false)
    (lk2 : K.lookup ck2 = some ⟨.type "type", dk2, .cls xk2, sk2⟩)
    (nk2 : (Value.ref CB :: .ref CR :: bmV).contains (.ref ck2) = false)
    (mk2 : (Value.ref CT :: .ref CR :: bmV).contains (.ref ck2) = false)
    (lk3 : K.lookup ck3 = some ⟨.type "type", dk3, .cls xk3, sk3⟩)
    (nk3 : (Value.ref CB :: .ref CR :: bmV).contains (.ref ck3) = false)
    (mk3 : (Value.ref CT :: .ref CR :: bmV).contains (.ref ck3) = false)
    (lk4 : K.lookup ck4 = some ⟨.type "type", dk4, .cls xk4, sk4⟩)
    (nk4 : (Value.ref CB :: .ref CR :: bmV).contains (.ref ck4) = false)
    (mk4 : (Value.ref CT :: .ref CR :: bmV).contains (.ref ck4) = false)
    (nbs : (Value.ref CB :: .ref CR :: bmV).contains (.ref CT) = false)
    (nsb : (Value.ref CT :: .ref CR :: bmV).contains (.ref CB) = false)
    (gl0 : PySem.W.nsIn K aB "a" = some (some (.str "A" t0)))
    (gl1 : PySem.W.nsIn K aB "b" = some (some (.str "B" t1)))
    (gl2 : PySem.W.nsIn K aB "c" = some (some (.str "C" t2)))
    (gl3 : PySem.W.nsIn K aB "d" = some (some (.str "D" t3)))
    (gl4 : PySem.W.nsIn K aB "e" = some (some (.str "E" t4)))
    (gl5 : PySem.W.nsIn K aB "f" = some (some (.str "F" t5)))
    (gl6 : PySem.W.nsIn K aB "A" = some (some (.str "a" t6)))
    (gl7 : PySem.W.nsIn K aB "B" = some (some (.str "b" t7)))
    (gl8 : PySem.W.nsIn K aB "C" = some (some (.str "c" t8)))
    (gl9 : PySem.W.nsIn K aB "D" = some (some (.str "d" t9)))
    (gl10 : PySem.W.nsIn K aB "E" = some (some (.str "e" t10)))
    (gl11 : PySem.W.nsIn K aB "F" = some (some (.str "f" t11)))
    (tb0 : 0 < t0 ∧ t0 < N)
    (tb1 : 0 < t1 ∧ t1 < N)
    (tb2 : 0 < t2 ∧ t2 < N)
    (tb3 : 0 < t3 ∧ t3 < N)
    (tb4 : 0 < t4 ∧ t4 < N)
    (tb5 : 0 < t5 ∧ t5 < N)
    (tb6 : 0 < t6 ∧ t6 < N)
    (tb7 : 0 < t7 ∧ t7 < N)
    (tb8 : 0 < t8 ∧ t8 < N)
    (tb9 : 0 < t9 ∧ t9 < N)
    (tb10 : 0 < t10 ∧ t10 < N)
    (tb11 : 0 < t11 ∧ t11 < N) :
    ∃ fd : FuncData, (∀ (s : Shared) (v : Value), BindsTo s fd ⟨[v], []⟩ [("_law_script", v)]) ∧ ∀ base : Heap, K.In base → base.Ns mainGlobals mg → FnOkT l.prog w K mg base CX0 9 fa fd ["_law_script"] (spLaw70 K N) := by
  have e := hfa.symm.trans (PySem.W.mg_of X G a15)
  cases e
  have gB : ∀ x : L, ∃ t, PySem.W.nsIn K aB (toS [x]) = some (some (.str (toS [inv x]) t)) := by
    have q : ∀ (x : L) (u v : Str) (t : Tok), PySem.W.nsIn K aB u = some (some (.str v t)) → toS [x] = u → toS [inv x] = v → ∃ t, PySem.W.nsIn K aB (toS [x]) = some (some (.str (toS [inv x]) t)) := fun x u v t g e1 e2 => ⟨t, by rw [e1, e2]; exact g⟩
    intro x
    match x with
    | ⟨0, _⟩ => exact q 0 "a" "A" _ gl0 (by decide +kernel) (by decide +kernel)
    | ⟨1, _⟩ => exact q 1 "b" "B" _ gl1 (by decide +kernel) (by decide +kernel)
    | ⟨2, _⟩ => exact q 2 "c" "C" _ gl2 (by decide +kernel) (by decide +kernel)
    | ⟨3, _⟩ => exact q 3 "d" "D" _ gl3 (by decide +kernel) (by decide +kernel)
    | ⟨4, _⟩ => exact q 4 "e" "E" _ gl4 (by decide +kernel) (by decide +kernel)
    | ⟨5, _⟩ => exact q 5 "f" "F" _ gl5 (by decide +kernel) (by decide +kernel)
    | ⟨6, _⟩ => exact q 6 "A" "a" _ gl6 (by decide +kernel) (by decide +kernel)
    | ⟨7, _⟩ => exact q 7 "B" "b" _ gl7 (by decide +kernel) (by decide +kernel)
    | ⟨8, _⟩ => exact q 8 "C" "c" _ gl8 (by decide +kernel) (by decide +kernel)
    | ⟨9, _⟩ => exact q 9 "D" "d" _ gl9 (by decide +kernel) (by decide +kernel)
    | ⟨10, _⟩ => exact q 10 "E" "e" _ gl10 (by decide +kernel) (by decide +kernel)
    | ⟨11, _⟩ => exact q 11 "F" "f" _ gl11 (by decide +kernel) (by decide +kernel)
  have T : Bt K w mg aB := ⟨PySem.W.mg_none_of X G z_len, PySem.W.mg_none_of X G z_repr, PySem.W.mg_none_of X G z_abs, PySem.W.mg_none_of X G z_max, PySem.W.mg_none_of X G z_int, PySem.W.mg_none_of X G z_list, PySem.W.mg_none_of X G z_range, PySem.W.mg_none_of X G z_reversed, PySem.W.mg_none_of X G z_min, PySem.W.mg_none_of X G z_sorted, PySem.W.mg_none_of X G z_tuple, PySem.W.mg_none_of X G z_isinstance, PySem.W.mg_none_of X G z_all, PySem.W.mg_none_of X G z_str, PySem.W.mg_none_of X G z_zip, PySem.W.mg_of X G aBk, ⟨es, en, lB, kB⟩, gB⟩
  have S : ∃ t, mg "SMALL" = some (.str "abcdef" t) := ⟨_, PySem.W.mg_of X G aS⟩
  have ME : ∃ t, mg "MOST_ENDS" = some (.int 12 t) := ⟨_, PySem.W.mg_of X G aE⟩
  have gT : ∀ x : L, ∃ t, 0 < t ∧ t < N ∧ PySem.W.nsIn K aB (toS [x]) = some (some (.str (toS [inv x]) t)) := by
    have q : ∀ (x : L) (u v : Str) (t : Tok), PySem.W.nsIn K aB u = some (some (.str v t)) → (0 < t ∧ t < N) → toS [x] = u → toS [inv x] = v → ∃ t, 0 < t ∧ t < N ∧ PySem.W.nsIn K aB (toS [x]) = some (some (.str (toS [inv x]) t)) := fun x u v t g b e1 e2 => ⟨t, b.1, b.2, by rw [e1, e2]; exact g⟩
    intro x
    match x with
    | ⟨0, _⟩ => exact q 0 "a" "A" _ gl0 tb0 (by decide +kernel) (by decide +kernel)
    | ⟨1, _⟩ => exact q 1 "b" "B" _ gl1 tb1 (by decide +kernel) (by decide +kernel)
    | ⟨2, _⟩ => exact q 2 "c" "C" _ gl2 tb2 (by decide +kernel) (by decide +kernel)
    | ⟨3, _⟩ => exact q 3 "d" "D" _ gl3 tb3 (by decide +kernel) (by decide +kernel)
    | ⟨4, _⟩ => exact q 4 "e" "E" _ gl4 tb4 (by decide +kernel) (by decide +kernel)
    | ⟨5, _⟩ => exact q 5 "f" "F" _ gl5 tb5 (by decide +kernel) (by decide +kernel)
    | ⟨6, _⟩ => exact q 6 "A" "a" _ gl6 tb6 (by decide +kernel) (by decide +kernel)
    | ⟨7, _⟩ => exact q 7 "B" "b" _ gl7 tb7 (by decide +kernel) (by decide +kernel)
    | ⟨8, _⟩ => exact q 8 "C" "c" _ gl8 tb8 (by decide +kernel) (by decide +kernel)
    | ⟨9, _⟩ => exact q 9 "D" "d" _ gl9 tb9 (by decide +kernel) (by decide +kernel)
    | ⟨10, _⟩ => exact q 10 "E" "e" _ gl10 tb10 (by decide +kernel) (by decide +kernel)
    | ⟨11, _⟩ => exact q 11 "F" "f" _ gl11 tb11 (by decide +kernel) (by decide +kernel)
  have XCR : XCl K CR bmV := xcl_of lCR mCR eCR dCR tail_base kCR
  have ACR : XAt K CR := ⟨⟨_, XCR⟩, saCR, gaCR, gnCR⟩
  have GCR : mg "RingError" = some (.ref CR) := PySem.W.mg_of X G aCR
  have BCR : XBase K CR := ⟨rdCR, atCR, gtCR, hdI⟩
  have XCT : XCl K CT (.ref CR :: bmV) := xcl_of lCT mCT eCT dCT (tail_own lCR (by rw [nCR]; exact nsok_of oCR pCR) (by rw [nCR]; exact qCR) tail_base) kCT
  have ACT : XAt K CT := ⟨⟨_, XCT⟩, saCT, gaCT, gnCT⟩
  have CCT : XCa K CT := ⟨ACT, caCT, cgt, ctk⟩
  have ICT := fun base : Heap => c_islide (P := l.prog) (w := w) (mg := mg) (base := base) (fun_mk uCT vCT wCT) BCR GCR ACT xCT0
  have MCT : ∀ base : Heap, XMk l.prog w K mg base "NoSlide" CT ["place"] 1 := fun base => ⟨PySem.W.mg_of X G aCT, CCT, by intro f hf; simp only [List.mem_cons, List.not_mem_nil, or_false] at hf; rcases hf with rfl <;> assumption, ⟨_, _, _, XCT, iCT, jCT, (ICT base).1, (ICT base).2⟩⟩
  have XCB : XCl K CB (.ref CR :: bmV) := xcl_of lCB mCB eCB dCB (tail_own lCR (by rw [nCR]; exact nsok_of oCR pCR) (by rw [nCR]; exact qCR) tail_base) kCB
  have ACB : XAt K CB := ⟨⟨_, XCB⟩, saCB, gaCB, gnCB⟩
  have CCB : XCa K CB := ⟨ACB, caCB, cgt, ctk⟩
  have ICB := fun base : Heap => c_iband (P := l.prog) (w := w) (mg := mg) (base := base) (fun_mk uCB vCB wCB) BCR GCR ACB xCB0
  have MCB : ∀ base : Heap, XMk l.prog w K mg base "NoBand" CB ["letter"] 1 := fun base => ⟨PySem.W.mg_of X G aCB, CCB, by intro f hf; simp only [List.mem_cons, List.not_mem_nil, or_false] at hf; rcases hf with rfl <;> assumption, ⟨_, _, _, XCB, iCB, jCB, (ICB base).1, (ICB base).2⟩⟩
  have TCL : TC71 K mg CB CT CR bmV bmV (fun n => [ck0, ck1, ck2, ck3, ck4].getD n ck0) := ⟨PySem.W.mg_of X G aCB, PySem.W.mg_of X G aCT, PySem.W.mg_of X G aCR, PySem.W.mg_none_of X G zV, PySem.W.mg_of X G ak0, PySem.W.mg_of X G ak1, PySem.W.mg_of X G ak2, PySem.W.mg_of X G ak3, PySem.W.mg_of X G ak4, XCB, XCT, (kit_ref2 XCB lk0).trans (congrArg some nk0), (kit_ref2 XCT lk0).trans (congrArg some mk0), (kit_ref2 XCB lk1).trans (congrArg some nk1), (kit_ref2 XCT lk1).trans (congrArg some mk1), (kit_ref2 XCB lk2).trans (congrArg some nk2), (kit_ref2 XCT lk2).trans (congrArg some mk2), (kit_ref2 XCB lk3).trans (congrArg some nk3), (kit_ref2 XCT lk3).trans (congrArg some mk3), (kit_ref2 XCB lk4).trans (congrArg some nk4), (kit_ref2 XCT lk4).trans (congrArg some mk4), kit_self, kit_self, (kit_ref2 XCB lCT).trans (congrArg some nbs), (kit_ref2 XCT lCB).trans (congrArg some nsb), kit_ty X XCB rfl rfl, kit_ty X XCT rfl rfl, CCB, CCT, xCB0, xCT0⟩
  refine ⟨PySem.W.fnOf "law" "law" (defArgs s_law) (defBody s_law) (defScope s_law) .none kV15 dc15 pm15 an15 cd15 ct15, fun s v => .of_eq rfl, fun base _ _ => ?_⟩
  obtain ⟨h0, h1, h2, h3, h4, h5, h6, h7, h8, h9, h10, h11, h12, h13, h14, _⟩ := hs
  have F_num := c_num (P := l.prog) (w := w) (base := base) (h0.df X G) T S
  have F_back := c_back (P := l.prog) (w := w) (base := base) (h1.df X G) T
  have F_backT := c_backT (P := l.prog) (w := w) (base := base) (h1.df X G) T gT
  have F_let := c_let (P := l.prog) (w := w) (base := base) (h3.df X G) T S
  have F_issurf := c_issurf (P := l.prog) (w := w) (base := base) (h2.df X G) T ME F_let F_back
  have F_low := c_low (P := l.prog) (w := w) (base := base) (h6.df X G) T S F_num F_back
  have F_lowd := c_lowd (P := l.prog) (w := w) (base := base) (h5.df X G) T F_low
  have F_cut := c_cut (P := l.prog) (w := w) (base := base) (h4.df X G) T (MCB _) F_let F_backT F_lowd
  have F_put := c_put (P := l.prog) (w := w) (base := base) (h8.df X G) 
  have F_glued := c_glued (P := l.prog) (w := w) (base := base) (h7.df X G) T S ME (MCB _) (MCT _) F_put F_back
  have F_feed := c_feed (P := l.prog) (w := w) (base := base) (h9.df X G) T
  have F_draw := c_draw (P := l.prog) (w := w) (base := base) (h10.df X G) T
  have F_surf := c_surf (P := l.prog) (w := w) (base := base) (h11.df X G) T F_draw
  have F_told := c_told (P := l.prog) (w := w) (base := base) (h12.df X G) T TCL XCR F_glued
  have F_due := c_due (P := l.prog) (w := w) (base := base) (h13.df X G) T
  have F_right := c_right (P := l.prog) (w := w) (base := base) (h14.df X G) T F_due F_told F_issurf F_cut
  exact c_law (fun_mk l15 c15 k15) T F_feed F_draw F_surf F_right
theorem walk {l : PySem.W.OpenLaw} {q : Program} {loose : List Str} {XP : (Str → Option Value) → Heap → Prop} {d : DefRec} {K : Params → PySem.W.Frag} {as : List Addr} {n0 t0 : Nat} (he : ∀ P, as = (K P).map (·.1)) (hn : l.most = some 63) (hdf : d.params.defaults = []) (h0 : 0 < t0)
    (F : ∀ (w : World) (mg : Str → Option Value) (fa : Addr) (h : Heap), (K w.params).In h → h.Ns mainGlobals mg → mg d.name = some (.ref fa) →
      ∃ fd : FuncData, (∀ (s : Shared) (u : Value), BindsTo s fd ⟨[u], []⟩ [("_law_script", u)]) ∧ ∀ base : Heap, (K w.params).In base → base.Ns mainGlobals mg → FnOkT l.prog w (K w.params) mg base CX0 9 fa fd ["_law_script"] (spLaw70 (K w.params) t0)) :
    PySem.W.WalkX q loose XP (PySem.W.X.obsZ as) (PySem.W.X.valZ K n0 t0) l.row.toRowW d [] (fun f vs => PySem.call f vs) :=
  L2.walk_ofX (n := 63) (k := 9) (x := "_law_script") (CX := fun _ => CX0) (sp := fun w => spLaw70 (K w.params) t0) he hn (by decide) hdf ⟨rfl, by decide, by decide, rfl⟩ F (fun w m H a ns hm hl _ hS => ⟨a, ns, rfl, hS, hl, h0, hm, fun _ => rfl⟩) fun _ _ _ _ _ z => z
end Kx
open PySem PySem.W PyProof.Rows
set_option maxRecDepth 100000 in
set_option maxHeartbeats 0 in
theorem PySem.Challenge.cw_ringwords_k71_glued_holds : PySem.Challenge.rw_ringwords_k71_glued.Holds := by
  w_on; o_law; z_head; (case hw => w_witness2)
  k_fill
  refine Kx.walk (l := PySem.Challenge.rw_ringwords_k71_glued) (fun _ => rfl) rfl rfl (by decide) ?F
  case F =>
    intro w mg fa h KX G hmg
    refine' Kx.all_mk KX G hmg ?hs ?a15 ?l15 ?c15 ?k15 ?z_len ?z_repr ?z_abs ?z_max ?z_int ?z_list ?z_range ?z_reversed ?z_min ?z_sorted ?z_tuple ?z_isinstance ?z_all ?z_str ?z_zip ?aBk ?lB ?kB ?aS ?aE ?zV ?aCR ?lCR ?mCR ?eCR ?dCR ?kCR ?saCR ?gaCR ?gnCR ?caCR ?nCR ?oCR ?pCR ?qCR ?rdCR ?atCR ?gtCR ?hdI ?cgt ?ctk ?aCT ?lCT ?mCT ?eCT ?dCT ?kCT ?saCT ?gaCT ?gnCT ?caCT ?xCT0 ?iCT ?uCT ?vCT ?wCT ?jCT ?aCB ?lCB ?mCB ?eCB ?dCB ?kCB ?saCB ?gaCB ?gnCB ?caCB ?xCB0 ?iCB ?uCB ?vCB ?wCB ?jCB ?ak0 ?ak1 ?ak2 ?ak3 ?ak4 ?lk0 ?nk0 ?mk0 ?lk1 ?nk1 ?mk1 ?lk2 ?nk2 ?mk2 ?lk3 ?nk3 ?mk3 ?lk4 ?nk4 ?mk4 ?nbs ?nsb ?gl0 ?gl1 ?gl2 ?gl3 ?gl4 ?gl5 ?gl6 ?gl7 ?gl8 ?gl9 ?gl10 ?gl11 ?tb0 ?tb1 ?tb2 ?tb3 ?tb4 ?tb5 ?tb6 ?tb7 ?tb8 ?tb9 ?tb10 ?tb11
    (case hs => (iterate 15 (refine' Kx.DIs.on ?_ ?_ ?_ ?_ ?_; rotate_left 10; k_is; k_is; k_is; k_is)); exact trivial)
    (case a15 | l15 | c15 | k15 | z_len | z_repr | z_abs | z_max | z_int | z_list | z_range | z_reversed | z_min | z_sorted | z_tuple | z_isinstance | z_all | z_str | z_zip | aBk | lB => k_is)
    (case kB => exact ⟨⟨_, _, rfl, rfl⟩, ⟨_, _, rfl, rfl⟩, ⟨_, _, rfl, rfl⟩, ⟨_, _, rfl, rfl⟩, ⟨_, _, rfl, rfl⟩, ⟨_, _, rfl, rfl⟩, ⟨_, _, rfl, rfl⟩, ⟨_, _, rfl, rfl⟩, ⟨_, _, rfl, rfl⟩, ⟨_, _, rfl, rfl⟩, ⟨_, _, rfl, rfl⟩, ⟨_, _, rfl, rfl⟩, trivial⟩)
    (case aS | aE | zV | aCR | lCR => k_is)
    (case mCR | eCR | dCR => rfl)
    (case kCR | saCR | gaCR | gnCR | caCR => k_is)
    (case nCR => rfl)
    (case oCR => k_is)
    (case pCR => rfl)
    (case qCR | rdCR | atCR | gtCR => k_is)
    (case hdI => rfl)
    (case cgt | ctk | aCT | lCT => k_is)
    (case mCT | eCT | dCT => rfl)
    (case kCT | saCT | gaCT | gnCT | caCT | xCT0 | iCT | uCT | vCT | wCT | jCT | aCB | lCB => k_is)
    (case mCB | eCB | dCB => rfl)
    (case kCB | saCB | gaCB | gnCB | caCB | xCB0 | iCB | uCB | vCB | wCB | jCB | ak0 | ak1 | ak2 | ak3 | ak4 | lk0 => k_is)
    (case nk0 | mk0 => rfl)
    (case lk1 => k_is)
    (case nk1 | mk1 => rfl)
    (case lk2 => k_is)
    (case nk2 | mk2 => rfl)
    (case lk3 => k_is)
    (case nk3 | mk3 => rfl)
    (case lk4 => k_is)
    (case nk4 | mk4 | nbs | nsb => rfl)
    (case gl0 | gl1 | gl2 | gl3 | gl4 | gl5 | gl6 | gl7 | gl8 | gl9 | gl10 | gl11 => k_is)
    (case tb0 | tb1 | tb2 | tb3 | tb4 | tb5 | tb6 | tb7 | tb8 | tb9 | tb10 | tb11 => decide)
