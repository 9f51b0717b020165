import PyProof.Rows.All
import Wide.All
import OpenK.AllK
import Wide.FinOn
import Lean
import PyProof.EqAt
import PyProof.EqKinds
import PyProof.TupleCall
import KE.KRevIter
import PyProof.Rows.SortShellK
import PyProof.FString5
import PyProof.NeData
import PyProof.TupleOfStr
import PyProof.IsRules
import PyProof.ListRange
import PyProof.FactsAll.tuple_3
import PyProof.ExcInit
import PyProof.InstStoreFacts
import PyProof.NsDelKeeps
import PySem.Challenge.RW_ringwords_k23_turning_papers
set_option Elab.async false
set_option linter.all false
set_option maxRecDepth 100000
namespace L2
open PySem PySem.Spec PyProof.Rows

noncomputable abbrev Key := Sum Int Str
noncomputable def keyIs : Key → Value → Bool
  | .inl k, v => Value.isInt k v
  | .inr x, v => Value.isStrOf x v
noncomputable def keyH (w : World) : Key → Int
  | .inl k => hashInt k
  | .inr x => hashStr w x
theorem keyIs_shape : ∀ {k : Key} {v : Value}, keyIs k v = true → (∃ i t, k = Sum.inl i ∧ v = Value.int i t) ∨ (∃ x t, k = Sum.inr x ∧ v = Value.str x t)
  | .inl i, v, h => by
    obtain ⟨t, e⟩ := Value.isInt_shape (k := i) (v := v) h
    exact .inl ⟨i, t, rfl, e⟩
  | .inr x, v, h => by
    obtain ⟨t, e⟩ := Value.isStrOf_shape (x := x) (v := v) h
    exact .inr ⟨x, t, rfl, e⟩
theorem keyIs_int (i : Int) (t : Tok) : keyIs (.inl i) (.int i t) = true := by simp [keyIs, Value.isInt]
theorem keyIs_str (x : Str) (t : Tok) : keyIs (.inr x) (.str x t) = true := by simp [keyIs, Value.isStrOf]
theorem key_ll (a b : Int) : decide ((Sum.inl a : Key) = Sum.inl b) = (a == b) := by
  by_cases e : a = b
  · subst e; simp
  · have h : ¬ (Sum.inl a : Key) = Sum.inl b := fun q => e (Sum.inl.inj q)
    rw [decide_eq_false h]
    exact (beq_eq_false_iff_ne.mpr e).symm
theorem key_rr (a b : Str) : decide ((Sum.inr a : Key) = Sum.inr b) = decide (a = b) := by
  by_cases e : a = b
  · subst e; simp
  · have h : ¬ (Sum.inr a : Key) = Sum.inr b := fun q => e (Sum.inr.inj q)
    rw [decide_eq_false h, decide_eq_false e]
theorem key_lr (a : Int) (b : Str) : decide ((Sum.inl a : Key) = Sum.inr b) = false := decide_eq_false (fun q => nomatch q)
theorem key_rl (a : Str) (b : Int) : decide ((Sum.inr a : Key) = Sum.inl b) = false := decide_eq_false (fun q => nomatch q)

noncomputable def mixKind (prog : Program) (w : World) : PySem.KeyKind prog w Key where
  is := keyIs
  hash := keyH w
  inj := fun v a b ha hb => by
    rcases keyIs_shape ha with ⟨i, t, rfl, rfl⟩ | ⟨x, t, rfl, rfl⟩
    · rcases keyIs_shape hb with ⟨j, u, rfl, e⟩ | ⟨y, u, rfl, e⟩
      · injection e with e1 _; rw [e1]
      · exact nomatch e
    · rcases keyIs_shape hb with ⟨j, u, rfl, e⟩ | ⟨y, u, rfl, e⟩
      · exact nomatch e
      · injection e with e1 _; rw [e1]
  byValue := fun k v h => by
    rcases keyIs_shape h with ⟨i, t, rfl, rfl⟩ | ⟨x, t, rfl, rfl⟩ <;> rfl
  pyHash := fun hv h => by
    rcases keyIs_shape hv with ⟨i, t, rfl, rfl⟩ | ⟨x, t, rfl, rfl⟩
    · exact wpAny_pyHash_int h
    · exact wpAny_pyHash_str h
  eqBool := fun hu hv h => by
    rcases keyIs_shape hu with ⟨i, t, rfl, rfl⟩ | ⟨x, t, rfl, rfl⟩
    · rcases keyIs_shape hv with ⟨j, u, rfl, rfl⟩ | ⟨y, u, rfl, rfl⟩
      · rw [key_ll] at h; exact wpAny_eqBool_int h
      · rw [key_lr] at h; exact SeqAt.EqAt.int_str i t y u _ _ _ _ h
    · rcases keyIs_shape hv with ⟨j, u, rfl, rfl⟩ | ⟨y, u, rfl, rfl⟩
      · rw [key_rl] at h; exact SeqAt.EqAt.str_int x t j u _ _ _ _ h
      · rw [key_rr] at h; exact wpAny_eqBool_str h
  «strs» := fun k x t v h => by
    rcases keyIs_shape h with ⟨i, u, rfl, e⟩ | ⟨y, u, rfl, e⟩
    · exact nomatch e
    · injection e with e1 _
      subst e1
      cases v <;> rfl

theorem mixKind_int (prog : Program) (w : World) (i : Int) (t : Tok) : (mixKind prog w).is (.inl i) (.int i t) = true := keyIs_int i t
theorem mixKind_str (prog : Program) (w : World) (x : Str) (t : Tok) : (mixKind prog w).is (.inr x) (.str x t) = true := keyIs_str x t
end L2

namespace L2
open PySem PySem.Spec PyProof.Rows

inductive V where
  | non | bl (b : Bool) | int (i : Int) | str (x : Str) | byt (b : Array UInt8) | flt (b : UInt64) | ref (a : Addr) | ty (n : String)
  deriving DecidableEq

noncomputable def RelV : V → Value → Prop
  | .non, u => u = Value.none
  | .bl b, u => u = Value.bool b
  | .int i, u => ∃ t, u = Value.int i t
  | .str x, u => ∃ t, u = Value.str x t
  | .byt b, u => ∃ t, u = Value.bytes b t
  | .flt b, u => ∃ t, u = Value.float b t
  | .ref a, u => u = Value.ref a
  | .ty n, u => u = Value.type n

noncomputable abbrev Vals : List V → List Value → Prop := Paired RelV
theorem Vals.length {xs : List V} {us : List Value} (r : Vals xs us) : xs.length = us.length := Paired.length r
theorem Vals.get : ∀ {xs : List V} {us : List Value} {i : Nat} {x : V}, Vals xs us → xs[i]? = some x → ∃ u, us[i]? = some u ∧ RelV x u
  | _, _, _, _, .nil, e => by simp at e
  | _, _, 0, _, .cons r _, e => by simp at e; subst e; exact ⟨_, rfl, r⟩
  | _, _, i + 1, x, .cons _ t, e => by
    obtain ⟨u, h1, h2⟩ := Vals.get (i := i) (x := x) t (by simpa using e)
    exact ⟨u, by simpa using h1, h2⟩
theorem Vals.append : ∀ {xs ys : List V} {us ws : List Value}, Vals xs us → Vals ys ws → Vals (xs ++ ys) (us ++ ws)
  | _, _, _, _, .nil, s => s
  | _, _, _, _, .cons r t, s => .cons r (Vals.append t s)
theorem Vals.take : ∀ {xs : List V} {us : List Value} (n : Nat), Vals xs us → Vals (xs.take n) (us.take n)
  | _, _, 0, _ => .nil
  | _, _, _ + 1, .nil => .nil
  | _, _, n + 1, .cons r t => .cons r (Vals.take n t)
theorem Vals.drop : ∀ {xs : List V} {us : List Value} (n : Nat), Vals xs us → Vals (xs.drop n) (us.drop n)
  | _, _, 0, r => r
  | _, _, _ + 1, .nil => .nil
  | _, _, n + 1, .cons _ t => Vals.drop n t

noncomputable def RelO : Option V → Option Value → Prop
  | some v, some u => RelV v u
  | none, none => True
  | _, _ => False
noncomputable def KV {κ : Type} : List (κ × V) → List (κ × Value) → Prop := Paired fun (p : κ × V) (q : κ × Value) => p.1 = q.1 ∧ RelV p.2 q.2

noncomputable def kV : Key → V
  | .inl i => .int i
  | .inr x => .str x

inductive HO where
  | lst (xs : List V)
  | tup (xs : List V)
  | dK (kvs : List (Key × V)) | dT (kvs : List (List Key × V))
  | set (S : Int → Bool) (n : Nat)
  | ins (C dx : Addr) (fs : List (Str × V))
  | own (x : Addr)
  | xd (fs : List (Str × V))
  | met (f x : Addr)
  | rng (lo hi : Int)
  | frz (o : Obj) (u : HO)
  | tbl (ps : Array Value)
  | ext (φ : Heap → Prop)

noncomputable abbrev Hp := Addr → Option HO
noncomputable def upd (H : Hp) (a : Addr) (o : HO) : Hp := fun b => if b = a then some o else H b
theorem upd_same {H : Hp} {a : Addr} {o : HO} : upd H a o a = some o := by unfold upd; rw [if_pos rfl]
theorem upd_ne {H : Hp} {a b : Addr} {o : HO} (h : b ≠ a) : upd H a o b = H b := by unfold upd; rw [if_neg h]
theorem upd_upd {H : Hp} {a : Addr} {o u : HO} : upd (upd H a o) a u = upd H a u := by
  funext b; unfold upd; split <;> rfl
theorem ne_of {H : Hp} {a b : Addr} {o u : HO} (h : H a = some o) (h' : H b = some u) (d : o ≠ u) : a ≠ b := by
  intro e; subst e; rw [h] at h'; exact d (Option.some.inj h')
theorem ne_of_none {H : Hp} {a b : Addr} {o : HO} (h : H a = some o) (h' : H b = none) : a ≠ b := by
  intro e; subst e; rw [h] at h'; cases h'

section
variable (P : Program) (w : World)
noncomputable def NoD (h : Heap) (a : Addr) : Prop := ∃ o, h.get? a = some o ∧ o.dict = none
theorem NoD.new (h : Heap) (o : Obj) (e : o.dict = none) (hf : o.isFreed = false := by rfl) : NoD (h.push o) h.objs.size := ⟨o, Heap.get?_push_size _ hf, e⟩
noncomputable def ObjOk (H : Hp) (h : Heap) (a : Addr) : HO → Prop
  | .lst xs => xs.length ≤ sizeLine ∧ ∃ (its : List Value) (n : Nat), Vals xs its ∧ h.get? a = some { cls := .type "list", data := .seq its.toArray n }
  | .tup xs => xs.length ≤ sizeLine ∧ ∃ its : List Value, Vals xs its ∧ IsTup h a its.toArray ∧ NoD h a
  | .dK kvs => kvs.length ≤ sizeLine ∧ (a == sysModules) = false ∧ ∃ vs, KV kvs vs ∧ h.DictOf (mixKind P w) a vs
  | .dT kvs => kvs.length ≤ sizeLine ∧ (a == sysModules) = false ∧ ∃ xs : List (List Key × Addr × Value),
      Paired (fun (p : List Key × V) (q : List Key × Addr × Value) => p.1 = q.1 ∧ H q.2.1 = some (.tup (p.1.map kV)) ∧ RelV p.2 q.2.2) kvs xs ∧
      ∃ o es ep, h.get? a = some o ∧ o.ExactDict ∧ o.data = .dict es ep ∧ es.toList = xs.map (entryOfKey (tupleKind (mixKind P w))) ∧ (xs.map (·.1)).Nodup
  | .set S n => h.SetOf (intKind P w) a S n
  | .ins C dx fs => H dx = some (.own a) ∧ fs.length ≤ 1000 ∧ dx ≠ a ∧ h.get? a = some (PySem.W.instObj C dx) ∧
      ∃ mA, h.Ns1 dx mA ∧ (∀ f, RelO (fs.lookup f) (mA f)) ∧ PySem.Within mA (fs.map (·.1))
  | .own _ => ∃ o, h.get? a = some o
  | .xd fs => ∃ mA, h.Ns1 a mA ∧ ∀ f, RelO (fs.lookup f) (mA f)
  | .rng lo hi => ∃ t u v, h.get? a = some { cls := .type "range", data := .fields #[.int lo t, .int hi u, .int 1 v] }
  | .frz o u => h.get? a = some o ∧ ObjOk H h a u
  | .tbl ps => h.get? a = some { cls := .none, data := .fields ps }
  | .met f x => h.get? a = some (PySem.W.methodObj (.ref f) (.ref x))
  | .ext φ => φ h ∧ (∃ o, h.get? a = some o) ∧ ∀ h1 h2 : Heap, φ h1 → (∀ o, h1.get? a = some o → h2.get? a = some o) → φ h2
noncomputable def HOk (H : Hp) (h : Heap) : Prop := ∀ a o, H a = some o → ObjOk P w H h a o
end

section
variable {P : Program} {w : World} {H H' : Hp} {h h' : Heap} {a : Addr} {o : HO}
theorem ObjOk.lt (x : ObjOk P w H h a o) : a < h.objs.size := by
  cases o with
  | lst xs => obtain ⟨_, _, _, _, e⟩ := x; exact Heap.lt_size e
  | tup xs => obtain ⟨_, _, _, p, _⟩ := x; exact p.lt
  | dK kvs => obtain ⟨_, _, _, _, o, _, _, e, _⟩ := x; exact Heap.lt_size e
  | dT kvs => obtain ⟨_, _, _, _, o, _, _, e, _⟩ := x; exact Heap.lt_size e
  | set S n => obtain ⟨o, _, _, _, e, _⟩ := x; exact Heap.lt_size e
  | ins C dx fs => obtain ⟨_, _, _, e, _⟩ := x; exact Heap.lt_size e
  | own y => obtain ⟨_, e⟩ := x; exact Heap.lt_size e
  | xd fs => obtain ⟨_, ⟨_, _, _, e, _⟩, _⟩ := x; exact Heap.lt_size e
  | rng lo hi => obtain ⟨_, _, _, e⟩ := x; exact Heap.lt_size e
  | frz ob u => obtain ⟨e, _⟩ := x; exact Heap.lt_size e
  | tbl ps => exact Heap.lt_size (show h.get? a = some _ from x)
  | met f y => exact Heap.lt_size (show h.get? a = some _ from x)
  | ext φ => obtain ⟨_, ⟨_, e⟩, _⟩ := x; exact Heap.lt_size e
theorem Paired.mapP {α β : Type} {F G : α → β → Prop} : ∀ {l₁ : List α} {l₂ : List β}, Paired F l₁ l₂ → (∀ a b, F a b → G a b) → Paired G l₁ l₂
  | _, _, .nil, _ => .nil
  | _, _, .cons r t, f => .cons (f _ _ r) (Paired.mapP t f)
theorem ObjOk.stay (x : ObjOk P w H h a o) (k : ∀ b u, (b = a ∨ H b = some (.own a)) → h.get? b = some u → h'.get? b = some u)
    (ho : ∀ b, H b = some (.own a) → H' b = some (.own a)) (ht : ∀ b xs, H b = some (.tup xs) → H' b = some (.tup xs)) : ObjOk P w H' h' a o := by
  induction o with
  | lst xs => obtain ⟨z, its, n, r, e⟩ := x; exact ⟨z, its, n, r, k _ _ (.inl rfl) e⟩
  | tup xs => obtain ⟨z, its, r, ⟨ob, e, c⟩, o2, e2, c2⟩ := x; exact ⟨z, its, r, ⟨ob, k _ _ (.inl rfl) e, c⟩, o2, k _ _ (.inl rfl) e2, c2⟩
  | dK kvs => obtain ⟨z, y, vs, r, ob, es, ep, e, c⟩ := x; exact ⟨z, y, vs, r, ob, es, ep, k _ _ (.inl rfl) e, c⟩
  | dT kvs =>
    obtain ⟨z, y, xs, r, ob, es, ep, e, c⟩ := x
    exact ⟨z, y, xs, Paired.mapP r fun p q z => ⟨z.1, ht _ _ z.2.1, z.2.2⟩, ob, es, ep, k _ _ (.inl rfl) e, c⟩
  | set S n => obtain ⟨ob, es, ep, t, e, c⟩ := x; exact ⟨ob, es, ep, t, k _ _ (.inl rfl) e, c⟩
  | ins C dx fs =>
    obtain ⟨d, z, ne, e, mA, ⟨od, es, ep, e2, c⟩, r⟩ := x
    exact ⟨ho _ d, z, ne, k _ _ (.inl rfl) e, mA, ⟨od, es, ep, k _ _ (.inr d) e2, c⟩, r⟩
  | own y => obtain ⟨ob, e⟩ := x; exact ⟨ob, k _ _ (.inl rfl) e⟩
  | xd fs => obtain ⟨mA, ⟨od, es, ep, e, c⟩, r⟩ := x; exact ⟨mA, ⟨od, es, ep, k _ _ (.inl rfl) e, c⟩, r⟩
  | rng lo hi => obtain ⟨t, u, v, e⟩ := x; exact ⟨t, u, v, k _ _ (.inl rfl) e⟩
  | frz ob u ih => obtain ⟨e, q⟩ := x; exact ⟨k _ _ (.inl rfl) e, ih q⟩
  | tbl ps =>
    have e : h.get? a = some { cls := .none, data := .fields ps } := x
    show h'.get? a = some { cls := .none, data := .fields ps }
    exact k a _ (.inl rfl) e
  | met f y =>
    have e : h.get? a = some (PySem.W.methodObj (.ref f) (.ref y)) := x
    show h'.get? a = some (PySem.W.methodObj (.ref f) (.ref y))
    exact k a _ (.inl rfl) e
  | ext φ => obtain ⟨p, ⟨o, e⟩, st⟩ := x; exact ⟨st _ _ p fun o q => k _ _ (.inl rfl) q, ⟨o, k _ _ (.inl rfl) e⟩, st⟩
theorem HOk.lt (x : HOk P w H h) (e : H a = some o) : a < h.objs.size := (x a o e).lt
theorem HOk.fresh (x : HOk P w H h) (e : h.objs.size ≤ a) : H a = none := by
  cases q : H a with
  | none => rfl
  | some u => exact absurd (Nat.lt_of_lt_of_le (x.lt q) e) (Nat.lt_irrefl _)
theorem HOk.kept (x : HOk P w H h) (k : ∀ b u, h.get? b = some u → h'.get? b = some u) : HOk P w H h' := fun a o e =>
  (x a o e).stay (fun b u _ q => k b u q) (fun _ q => q) fun _ _ q => q
theorem HOk.laid (x : HOk P w H h) (k : ∀ b u, h.get? b = some u → h'.get? b = some u) (hp : h.objs.size ≤ a) (new : ObjOk P w (upd H a o) h' a o) : HOk P w (upd H a o) h' := fun b u e => by
  have hn := x.fresh hp
  by_cases hb : b = a
  · subst hb; rw [upd_same] at e; cases e; exact new
  · rw [upd_ne hb] at e
    exact (x b u e).stay (fun c v _ q => k c v q) (fun c q => by rw [upd_ne (ne_of_none q hn)]; exact q) fun c xs q => by rw [upd_ne (ne_of_none q hn)]; exact q
end

noncomputable def Rd (H : Hp) (a : Addr) (u : HO) : Prop := H a = some u ∨ ∃ o, H a = some (.frz o u)
theorem Rd.ok {P : Program} {w : World} {H : Hp} {h : Heap} {a : Addr} {u : HO} (r : Rd H a u) (x : HOk P w H h) : ObjOk P w H h a u := by
  rcases r with r | ⟨o, r⟩
  · exact x a u r
  · obtain ⟨_, q⟩ := x a _ r
    exact q
noncomputable def Mut : Option HO → Prop
  | some (.lst _) => True
  | some (.dK _) => True
  | some (.dT _) => True
  | some (.set _ _) => True
  | some (.ins _ _ _) => True
  | some (.ext _) => True
  | _ => False
section
variable {P : Program} {w : World} {H : Hp} {h h' : Heap} {x e : Addr} {o' : HO}
theorem HOk.write (ok : HOk P w H h) (mu : Mut (H x)) (he : e = x ∨ H e = some (.own x)) (k : ∀ b u, b ≠ e → h.get? b = some u → h'.get? b = some u) (heo : ∃ u, h'.get? e = some u)
    (new : ObjOk P w (upd H x o') h' x o') : HOk P w (upd H x o') h' := fun b u q => by
  have nown : ∀ c y, H c = some (.own y) → c ≠ x := fun c y r z => by subst z; rw [r] at mu; exact mu
  have ntup : ∀ c xs, H c = some (.tup xs) → c ≠ x := fun c xs r z => by subst z; rw [r] at mu; exact mu
  by_cases hb : b = x
  · subst hb; rw [upd_same] at q; cases q; exact new
  · rw [upd_ne hb] at q
    by_cases hbe : b = e
    · have q' : H b = some (.own x) := by
        rcases he with z | z
        · exact absurd (hbe.trans z) hb
        · rw [hbe]; exact z
      rw [q] at q'; cases q'
      obtain ⟨v, hv⟩ := heo
      exact ⟨v, by rw [hbe]; exact hv⟩
    · refine (ok b u q).stay (fun c v hc r => k c v ?_ r) (fun c r => by rw [upd_ne (nown c b r)]; exact r) fun c xs r => by rw [upd_ne (ntup c xs r)]; exact r
      rcases hc with rfl | hc
      · exact hbe
      · rintro rfl
        rcases he with z | z
        · exact nown c b hc z
        · rw [hc] at z; cases z; exact hb rfl
end

structure Un (fs ex : List Addr) (H H' : Hp) (h h' : Heap) : Prop where
  keep : ∀ b o, h.get? b = some o → H b = none → b ∉ fs → b ∉ ex → h'.get? b = some o
  slot : ∀ b o, h.get? b = some o → H b = none → b ∈ fs → b ∉ ex → ∃ sl, h'.get? b = some { o with slots := sl }
  free : ∀ b o, h.get? b = some o → H b = none → b ∉ ex → H' b = none
  there : ∀ b o, h.get? b = some o → b ∉ ex → ∃ o', h'.get? b = some o'
  tups : ∀ b xs, H b = some (.tup xs) → H' b = some (.tup xs)
  frzs : ∀ b o u, H b = some (.frz o u) → H' b = some (.frz o u)
  tbls : ∀ b ps, H b = some (.tbl ps) → ∃ more, H' b = some (.tbl (ps ++ more))
section
variable {fs fs' ex ex' : List Addr} {H H1 H2 : Hp} {h h1 h2 h' : Heap} {a x e : Addr} {o : HO}
theorem Un.any (u : Un fs ex H H1 h h1) {b : Addr} {ob : Obj} (q : h.get? b = some ob) (n : H b = none) (hx : b ∉ ex) : ∃ sl, h1.get? b = some { ob with slots := sl } := by
  by_cases hb : b ∈ fs
  · exact u.slot b ob q n hb hx
  · exact ⟨ob.slots, u.keep b ob q n hb hx⟩
theorem Un.kept (k : ∀ b u, h.get? b = some u → h'.get? b = some u) : Un fs ex H H h h' :=
  ⟨fun b ob q _ _ _ => k b ob q, fun b ob q _ _ _ => ⟨ob.slots, k b ob q⟩, fun _ _ _ n _ => n, fun b ob q _ => ⟨ob, k b ob q⟩, fun _ _ q => q, fun _ _ _ q => q, fun _ ps q => ⟨#[], by rw [q]; simp⟩⟩
theorem Un.refl : Un fs ex H H h h := Un.kept fun _ _ q => q
theorem Un.laid (k : ∀ b u, h.get? b = some u → h'.get? b = some u) (hp : h.objs.size ≤ a) (hn : H a = none) : Un fs ex H (upd H a o) h h' where
  keep := fun b u q _ _ _ => k b u q
  slot := fun b u q _ _ _ => ⟨u.slots, k b u q⟩
  free := fun b u q n _ => by rw [upd_ne (Nat.ne_of_lt (Nat.lt_of_lt_of_le (Heap.lt_size q) hp))]; exact n
  there := fun b u q _ => ⟨u, k b u q⟩
  tups := fun b xs q => by rw [upd_ne (ne_of_none q hn)]; exact q
  frzs := fun b u xs q => by rw [upd_ne (ne_of_none q hn)]; exact q
  tbls := fun b ps q => ⟨#[], by rw [upd_ne (ne_of_none q hn), q]; simp⟩
theorem Un.write (mu : Mut (H x)) (he : e = x ∨ H e = some (.own x)) (k : ∀ b u, b ≠ e → h.get? b = some u → h'.get? b = some u) (heo : ∃ u, h'.get? e = some u) : Un fs ex H (upd H x o) h h' := by
  have hx : ∀ b, H b = none → b ≠ x := fun b n z => by subst z; rw [n] at mu; exact mu
  have hb : ∀ b, H b = none → b ≠ e := fun b n z => by
    subst z
    rcases he with r | r
    · exact hx b n r
    · rw [n] at r; cases r
  have hm : ∀ b u, H b = some u → ¬ Mut (some u) → b ≠ x := fun b u q nm z => by subst z; rw [q] at mu; exact nm mu
  refine ⟨fun b u q n _ _ => k b u (hb b n) q, fun b u q n _ _ => ⟨u.slots, k b u (hb b n) q⟩, fun b u q n _ => by rw [upd_ne (hx b n)]; exact n, fun b u q _ => ?_,
    fun b xs q => by rw [upd_ne (hm b _ q fun z => z)]; exact q, fun b u xs q => by rw [upd_ne (hm b _ q fun z => z)]; exact q, fun b ps q => ⟨#[], by rw [upd_ne (hm b _ q fun z => z), q]; simp⟩⟩
  by_cases hbe : b = e
  · subst hbe; exact heo
  · exact ⟨u, k b u hbe q⟩
end

noncomputable def trk (h : Heap) (H : Hp) : List Addr := (List.range h.objs.size).filter fun a => (H a).isSome
noncomputable def hidT (h : Heap) (H : Hp) : Heap := PySem.W.hideAll h (trk h H)
theorem hidT_size (h : Heap) (H : Hp) : (hidT h H).objs.size = h.objs.size := PySem.W.hideAll_size _ _
theorem hidT_get {h : Heap} {H : Hp} {b : Addr} {o : Obj} (e : h.get? b = some o) (n : H b = none) : (hidT h H).get? b = some o :=
  PySem.W.hideAll_get _ e fun hm => by
    have q : (H b).isSome = true := (List.mem_filter.mp hm).2
    rw [n] at q; simp at q
theorem of_hidT {h : Heap} {H : Hp} {b : Addr} {o : Obj} (e : (hidT h H).get? b = some o) : h.get? b = some o ∧ H b = none := by
  have e' : h.get? b = some o := PySem.W.of_hideAll (trk h H) e
  refine ⟨e', ?_⟩
  cases q : H b with
  | none => rfl
  | some x =>
    have hm : b ∈ trk h H := List.mem_filter.mpr ⟨List.mem_range.mpr (Heap.lt_size e'), by simp [q]⟩
    have z : (hidT h H).get? b = none := PySem.W.hideAll_none (trk h H) hm
    rw [z] at e; cases e

end L2

namespace L2
open PySem PySem.Spec PyProof.Rows

structure Mod (K : PySem.W.Frag) (mg : Str → Option Value) (base : Heap) : Prop where
  kin : K.In base
  glob : base.Ns mainGlobals mg
  blt : ∃ mb, base.Ns builtinsNs mb ∧ ∀ x : Str, x ≠ "__name__" → mb x = bootBuiltins x
  nolimit : base.NoLimit

/-- the context: a def's body (or a comprehension's block) running. base: fixed through the whole law; s₀, H₀: the entry; outer: the frames whose slots others may change (a def's callers); stack: all frames that run;
   ex: iterators that were made ahead of the entry and are walked here (a comprehension's); fn: the names whose cells were made at the entry (a def: all; a comprehension's block: its own); calm: not within an except suite; pn: pins that every state bears; xe: what is wanted of an exception that leaves the code -/
structure Cx where
  prog : Program
  w : World
  K : PySem.W.Frag
  mg : Str → Option Value
  base : Heap
  A : Around
  N : List Str
  s₀ : Shared
  H₀ : Hp
  env : Env
  outer : List Env
  stack : List Env
  ex : List Addr
  fn : Str → Bool
  calm : Bool
  pn : List (Addr × Obj)
  xe : Value → Shared → Prop
noncomputable def frs (l : List Env) : List Addr := l.filterMap (·.frame)
noncomputable abbrev Cx.fs (X : Cx) : List Addr := frs X.outer

noncomputable def Vis (sc : Scope) (x : Str) : Prop := sc.names.lookup x = some .local ∨ sc.names.lookup x = some .cell ∨ sc.names.lookup x = some .free
noncomputable def Loc (sc : Scope) (x : Str) : Prop := sc.names.lookup x = some .local ∨ sc.names.lookup x = some .cell
noncomputable def Look (env : Env) (h : Heap) (m : Str → Option Value) (x : Str) (u : Value) : Prop :=
  (env.kindOf x = some .local ∧ m x = some u) ∨ ((env.kindOf x = some .cell ∨ env.kindOf x = some .free) ∧ ∃ c, env.cells.lookup x = some c ∧ h.IsCell c (some u))

structure Cx.Ok (X : Cx) : Prop where
  mod : Mod X.K X.mg X.base
  kind : X.env.scope.kind = .function
  glob : X.env.globals = mainGlobals
  blt : X.env.builtins = builtinsNs
  above : X.s₀.heap.objs.size ≤ X.env.locals
  inj : ∀ x y c, X.env.cells.lookup x = some c → X.env.cells.lookup y = some c → x = y
  has : ∀ x, (X.env.kindOf x = some .cell ∨ X.env.kindOf x = some .free) → ∃ c, X.env.cells.lookup x = some c
  cab : ∀ x c, X.fn x = true → X.env.cells.lookup x = some c → X.s₀.heap.objs.size ≤ c
  hd : X.calm = true → X.A.handled = none
  frames : X.A.frames = some X.stack
  stk : X.stack = X.outer ∨ (X.stack = X.env :: X.outer ∧ X.env.frame = some X.env.locals)
  exf : ∀ b ∈ X.ex, b ≠ X.env.locals ∧ ∀ x c, X.env.cells.lookup x = some c → c ≠ b
  bs : ∀ b o, X.base.get? b = some o → X.s₀.heap.get? b = some o ∧ X.H₀ b = none
  bsz : X.base.objs.size ≤ X.s₀.heap.objs.size
  noex : ∀ b o, X.base.get? b = some o → b ∉ X.ex
  exfs : ∀ b ∈ X.ex, b ∉ X.fs
  funs : X.s₀.heap.FunFrames X.base X.outer
  frf : ∀ b ∈ X.fs, X.H₀ b = none

structure Inv (X : Cx) (pins : List (Addr × Obj)) (σ : List (Option V)) (H : Hp) (s : Shared) : Prop where
  ok : X.Ok
  os : s.os = X.s₀.os
  bare : AllBare s.gens
  base : Un X.fs X.ex X.H₀ H X.s₀.heap s.heap
  loc : ∃ m, s.heap.Ns X.env.locals m ∧ ∀ (i : Nat) (x : Str) (v : V), X.N[i]? = some x → σ[i]? = some (some v) → Vis X.env.scope x → ∃ u, RelV v u ∧ Look X.env s.heap m x u
  cell : ∀ x c, X.env.cells.lookup x = some c → ∃ v, s.heap.IsCell c v
  free : H X.env.locals = none
  freeC : ∀ x c, X.env.cells.lookup x = some c → H c = none
  pin : ∀ p ∈ X.pn ++ pins, s.heap.get? p.1 = some p.2 ∧ H p.1 = none ∧ p.1 ≠ X.env.locals ∧ p.1 ∉ X.fs ∧ ∀ v, p.2.data ≠ .cell v
  hok : HOk X.prog X.w H s.heap
  len : σ.length = X.N.length

section
variable {X : Cx} {pins : List (Addr × Obj)} {σ : List (Option V)} {H H' : Hp} {s : Shared} {h' : Heap}

theorem Cx.Ok.nofr (ok : X.Ok) {b : Addr} {o : Obj} (e : X.base.get? b = some o) : b ∉ X.fs := fun hb => by
  have := (ok.funs.mem hb).1
  rw [e] at this; cases this
theorem Inv.bs (I : Inv X pins σ H s) : ∀ b o, X.base.get? b = some o → s.heap.get? b = some o ∧ H b = none := fun b o e =>
  ⟨I.base.keep b o (I.ok.bs b o e).1 (I.ok.bs b o e).2 (I.ok.nofr e) (I.ok.noex b o e), I.base.free b o (I.ok.bs b o e).1 (I.ok.bs b o e).2 (I.ok.noex b o e)⟩
theorem Inv.bk (I : Inv X pins σ H s) : ∀ b o, X.base.get? b = some o → s.heap.get? b = some o := fun b o e => (I.bs b o e).1
theorem Inv.mod (I : Inv X pins σ H s) : Mod X.K X.mg X.base := I.ok.mod
theorem Inv.kIn (I : Inv X pins σ H s) : X.K.In s.heap := I.ok.mod.kin.keeps I.bk
theorem Inv.fr (I : Inv X pins σ H s) : ∃ m, Fr X.base X.env.locals s.heap m :=
  let ⟨m, hn, _⟩ := I.loc
  ⟨m, hn, I.bk, Nat.le_trans I.ok.bsz I.ok.above⟩
theorem Inv.lt (I : Inv X pins σ H s) : X.env.locals < s.heap.objs.size := let ⟨_, hn, _⟩ := I.loc; hn.lt
theorem Inv.sz (I : Inv X pins σ H s) : X.s₀.heap.objs.size ≤ s.heap.objs.size := Nat.le_trans I.ok.above (Nat.le_of_lt I.lt)
theorem Inv.nofs (I : Inv X pins σ H s) {a : Addr} (h : s.heap.objs.size ≤ a) : a ∉ X.fs := fun hb => by
  obtain ⟨_, o, ho, _⟩ := I.ok.funs.mem hb
  exact absurd (Nat.lt_of_lt_of_le (Heap.lt_size ho) (Nat.le_trans I.sz h)) (Nat.lt_irrefl _)
theorem Inv.cne (I : Inv X pins σ H s) : ∀ x c, X.env.cells.lookup x = some c → c ≠ X.env.locals := fun x c e z => by
  obtain ⟨v, o, ho, hd⟩ := I.cell x c e
  obtain ⟨m, ⟨o', es, ep, ho', hd', _⟩, _⟩ := I.loc
  rw [z, ho'] at ho; cases ho; rw [hd'] at hd; cases hd
theorem Inv.funs (I : Inv X pins σ H s) : s.heap.FunFrames X.base X.outer := by
  have all : ∀ (l : List Env), (∀ b ∈ frs l, b ∈ X.fs) → X.s₀.heap.FunFrames X.base l → s.heap.FunFrames X.base l := by
    intro l
    induction l with
    | nil => intro _ _; trivial
    | cons env r ih =>
      intro hs hl
      obtain ⟨hk, ⟨L, o, hf, hn, ho, hd⟩, hr⟩ := hl
      have hL : L ∈ X.fs := hs L (by unfold frs; rw [List.filterMap_cons, hf]; exact List.mem_cons_self)
      obtain ⟨sl, e⟩ := I.base.slot L o ho (I.ok.frf L hL) hL fun z => I.ok.exfs L z hL
      exact ⟨hk, ⟨L, _, hf, hn, e, hd⟩, ih (fun b hb => hs b (by unfold frs; rw [List.filterMap_cons, hf]; exact List.mem_cons_of_mem _ hb)) hr⟩
  exact all X.outer (fun _ hb => hb) I.ok.funs

theorem Inv.stack (I : Inv X pins σ H s) : s.heap.FunFrames X.base X.stack := by
  rcases I.ok.stk with e | ⟨e, hf⟩
  · rw [e]; exact I.funs
  · rw [e]
    obtain ⟨m, hn, _⟩ := I.loc
    refine .cons (by rw [I.ok.kind]; decide) hf hn ?_ I.funs
    exact Heap.get?_none_of_le (Nat.le_trans I.ok.bsz I.ok.above)
theorem Inv.stkSub (I : Inv X pins σ H s) : ∀ b ∈ frs X.stack, b ∈ X.env.locals :: X.fs := fun b hb => by
  rcases I.ok.stk with e | ⟨e, hf⟩
  · rw [e] at hb; exact List.mem_cons_of_mem _ hb
  · rw [e] at hb
    unfold frs at hb
    rw [List.filterMap_cons, hf] at hb
    exact hb
theorem Inv.stkFree (I : Inv X pins σ H s) : ∀ b ∈ frs X.stack, H b = none := fun b hb => by
  rcases List.mem_cons.mp (I.stkSub b hb) with e | hb
  · rw [e]; exact I.free
  · obtain ⟨_, o, ho, _⟩ := I.ok.funs.mem hb
    exact I.base.free b o ho (I.ok.frf b hb) fun z => I.ok.exfs b z hb

theorem Inv.step {g' : Array GenState} {t' : Nat} {d' : Drawn} {ch : List Addr} (I : Inv X pins σ H s)
    (hch : ∀ b ∈ ch, (b ∈ X.ex ∨ X.s₀.heap.objs.size ≤ b) ∧ b ≠ X.env.locals ∧ (∀ x c, X.env.cells.lookup x = some c → c ≠ b) ∧ ∀ p ∈ X.pn ++ pins, p.1 ≠ b)
    (keep : ∀ b o, b ≠ X.env.locals → b ∉ X.fs → b ∉ ch → s.heap.get? b = some o → H b = none → h'.get? b = some o)
    (slot : ∀ b o, b ≠ X.env.locals → b ∈ X.fs → b ∉ ch → s.heap.get? b = some o → H b = none → ∃ sl, h'.get? b = some { o with slots := sl }) (free : ∀ b o, b ∉ ch → s.heap.get? b = some o → H b = none → H' b = none)
    (there : ∀ b o, b ∉ ch → s.heap.get? b = some o → ∃ o', h'.get? b = some o')
    (tups : ∀ b xs, H b = some (.tup xs) → H' b = some (.tup xs)) (frzs : ∀ b o u, H b = some (.frz o u) → H' b = some (.frz o u)) (tbls : ∀ b ps, H b = some (.tbl ps) → ∃ more, H' b = some (.tbl (ps ++ more)))
    (ns : ∀ m, s.heap.Ns X.env.locals m → h'.Ns X.env.locals m) (hok : HOk X.prog X.w H' h') (hg : AllBare g') :
    Inv X pins σ H' { s with heap := h', gens := g', drawn := d', toks := t' } := by
  have neL : ∀ b o, X.s₀.heap.get? b = some o → b ≠ X.env.locals := fun b o e => Nat.ne_of_lt (Nat.lt_of_lt_of_le (Heap.lt_size e) I.ok.above)
  have neC : ∀ b o, X.s₀.heap.get? b = some o → b ∉ X.ex → b ∉ ch := fun b o e hx hb => by
    rcases (hch b hb).1 with z | z
    · exact hx z
    · exact absurd (Nat.lt_of_lt_of_le (Heap.lt_size e) z) (Nat.lt_irrefl _)
  have cellK : ∀ x c, X.env.cells.lookup x = some c → ∀ v, s.heap.IsCell c v → h'.IsCell c v := fun x c e v ⟨o, ho, hd⟩ => by
    have nch : c ∉ ch := fun z => (hch c z).2.2.1 x c e rfl
    by_cases hc : c ∈ X.fs
    · obtain ⟨sl, q⟩ := slot c o (I.cne x c e) hc nch ho (I.freeC x c e)
      exact ⟨_, q, hd⟩
    · exact ⟨o, keep c o (I.cne x c e) hc nch ho (I.freeC x c e), hd⟩
  refine ⟨I.ok, I.os, hg, ⟨fun b o e n hb hx => ?_, fun b o e n hb hx => ?_, fun b o e n hx => ?_, fun b o e hx => ?_, fun b xs e => tups b xs (I.base.tups b xs e), fun b o xs e => frzs b o xs (I.base.frzs b o xs e), fun b ps e => ?_⟩, ?_, fun x c e => ?_, ?_, fun x c e => ?_, fun p hp => ?_, hok, I.len⟩
  · exact keep b o (neL b o e) hb (neC b o e hx) (I.base.keep b o e n hb hx) (I.base.free b o e n hx)
  · obtain ⟨sl, e1⟩ := I.base.slot b o e n hb hx
    obtain ⟨sl', e2⟩ := slot b _ (neL b o e) hb (neC b o e hx) e1 (I.base.free b o e n hx)
    exact ⟨sl', e2⟩
  · obtain ⟨o', e1⟩ := I.base.there b o e hx
    exact free b o' (neC b o e hx) e1 (I.base.free b o e n hx)
  · obtain ⟨o', e1⟩ := I.base.there b o e hx
    exact there b o' (neC b o e hx) e1
  · obtain ⟨m1, e1⟩ := I.base.tbls b ps e
    obtain ⟨m2, e2⟩ := tbls b _ e1
    exact ⟨m1 ++ m2, by rw [e2, Array.append_assoc]⟩
  · obtain ⟨m, hn, hl⟩ := I.loc
    refine ⟨m, ns m hn, fun i x v e1 e2 e3 => ?_⟩
    obtain ⟨u, r, l⟩ := hl i x v e1 e2 e3
    refine ⟨u, r, ?_⟩
    rcases l with l | ⟨k, c, e, z⟩
    · exact .inl l
    · exact .inr ⟨k, c, e, cellK x c e _ z⟩
  · obtain ⟨v, z⟩ := I.cell x c e
    exact ⟨v, cellK x c e v z⟩
  · obtain ⟨m, ⟨o, _, _, ho, _⟩, _⟩ := I.loc
    exact free _ o (fun z => (hch _ z).2.1 rfl) ho I.free
  · obtain ⟨v, o, ho, hd⟩ := I.cell x c e
    exact free c o (fun z => (hch c z).2.2.1 x c e rfl) ho (I.freeC x c e)
  · obtain ⟨e, n, ne, nf, d⟩ := I.pin p hp
    have nch : p.1 ∉ ch := fun z => (hch p.1 z).2.2.2 p hp rfl
    exact ⟨keep p.1 p.2 ne nf nch e n, free p.1 p.2 nch e n, ne, nf, d⟩
theorem Inv.un {t' : Nat} (I : Inv X pins σ H s) (u : Un X.fs [] H H' s.heap h') (hok : HOk X.prog X.w H' h') : Inv X pins σ H' { s with heap := h', toks := t' } := by
  obtain ⟨m, ⟨o, es, ep, ho, r⟩, _⟩ := id I.loc
  obtain ⟨sl, hL⟩ := u.any ho I.free (by simp)
  exact I.step (g' := s.gens) (d' := s.drawn) (ch := []) (fun _ z => nomatch z) (fun b o _ hb _ e n => u.keep b o e n hb (by simp)) (fun b o _ hb _ e n => u.slot b o e n hb (by simp)) (fun b o _ e n => u.free b o e n (by simp)) (fun b o _ e => u.there b o e (by simp)) u.tups u.frzs u.tbls (fun m' hm => by
    obtain ⟨o', es', ep', ho', r'⟩ := hm
    rw [ho] at ho'; cases ho'
    exact ⟨_, es', ep', hL, r'⟩) hok I.bare
theorem Inv.call {g' : Array GenState} {t' : Nat} {d' : Drawn} {ch : List Addr} (I : Inv X pins σ H s) (u : Un (frs X.stack) ch H H' s.heap h') (hok : HOk X.prog X.w H' h') (hg : AllBare g')
    (hch : ∀ b ∈ ch, (b ∈ X.ex ∨ X.s₀.heap.objs.size ≤ b) ∧ b ≠ X.env.locals ∧ (∀ x c, X.env.cells.lookup x = some c → c ≠ b) ∧ ∀ p ∈ X.pn ++ pins, p.1 ≠ b) :
    Inv X pins σ H' { s with heap := h', gens := g', drawn := d', toks := t' } := by
  obtain ⟨m, ⟨o, es, ep, ho, r⟩, _⟩ := id I.loc
  obtain ⟨sl, hL⟩ := u.any ho I.free fun z => (hch _ z).2.1 rfl
  exact I.step (ch := ch) hch (fun b o hL hb hc e n => u.keep b o e n (fun z => (List.mem_cons.mp (I.stkSub b z)).elim hL hb) hc) (fun b o _ _ hc e n => u.any e n hc) (fun b o hc e n => u.free b o e n hc) (fun b o hc e => u.there b o e hc) u.tups u.frzs u.tbls (fun m' hm => by
    obtain ⟨o', es', ep', ho', r'⟩ := hm
    rw [ho] at ho'; cases ho'
    exact ⟨_, es', ep', hL, r'⟩) hok hg
theorem Inv.turned {t' : Nat} {it : Addr} (I : Inv X pins σ H s) (k : ∀ b o, b ≠ it → s.heap.get? b = some o → h'.get? b = some o) (hn : H it = none) (hL : it ≠ X.env.locals)
    (h1 : it ∈ X.ex ∨ X.s₀.heap.objs.size ≤ it) (h2 : ∀ x c, X.env.cells.lookup x = some c → c ≠ it) (h3 : ∀ p ∈ X.pn ++ pins, p.1 ≠ it) : Inv X pins σ H { s with heap := h', toks := t' } := by
  have nit : ∀ b u, H b = some u → b ≠ it := fun b u e z => by rw [z, hn] at e; cases e
  refine I.step (g' := s.gens) (d' := s.drawn) (ch := [it]) (fun b hb => ?_) (fun b o _ _ hc e _ => k b o (fun z => hc (by simp [z])) e) (fun b o _ _ hc e _ => ⟨o.slots, k b o (fun z => hc (by simp [z])) e⟩) (fun _ _ _ _ n => n)
    (fun b o hc e => ⟨o, k b o (fun z => hc (by simp [z])) e⟩) (fun _ _ e => e) (fun _ _ _ e => e) (fun b ps e => ⟨#[], by rw [e]; simp⟩) (fun m hm => ?_) (fun b u e => ?_) I.bare
  · have e : b = it := by simpa using hb
    subst e
    exact ⟨h1, hL, h2, h3⟩
  · obtain ⟨o, es, ep, ho, r⟩ := hm
    exact ⟨o, es, ep, k _ o (Ne.symm hL) ho, r⟩
  · refine (I.hok b u e).stay (fun c v hc q => k c v ?_ q) (fun _ q => q) fun _ _ q => q
    rcases hc with z | z
    · rw [z]; exact nit b u e
    · exact nit c _ z
theorem Inv.tok (I : Inv X pins σ H s) (t : Nat) : Inv X pins σ H { s with toks := t } := I.un (h' := s.heap) (t' := t) Un.refl I.hok
theorem Inv.kept {t' : Nat} (I : Inv X pins σ H s) (k : ∀ b u, s.heap.get? b = some u → h'.get? b = some u) : Inv X pins σ H { s with heap := h', toks := t' } := I.un (Un.kept k) (I.hok.kept k)
theorem Inv.laid {a : Addr} {o : HO} {t' : Nat} (I : Inv X pins σ H s) (k : ∀ b u, s.heap.get? b = some u → h'.get? b = some u) (hp : s.heap.objs.size ≤ a) (new : ObjOk X.prog X.w (upd H a o) h' a o) :
    Inv X pins σ (upd H a o) { s with heap := h', toks := t' } := I.un (Un.laid k hp (I.hok.fresh hp)) (I.hok.laid k hp new)
theorem Inv.write {x e : Addr} {o : HO} {t' : Nat} (I : Inv X pins σ H s) (mu : Mut (H x)) (he : e = x ∨ H e = some (.own x)) (k : ∀ b u, b ≠ e → s.heap.get? b = some u → h'.get? b = some u) (heo : ∃ u, h'.get? e = some u)
    (new : ObjOk X.prog X.w (upd H x o) h' x o) : Inv X pins σ (upd H x o) { s with heap := h', toks := t' } := I.un (Un.write mu he k heo) (I.hok.write mu he k heo new)
theorem Inv.pins_of {pins' : List (Addr × Obj)} (I : Inv X pins σ H s) (h : ∀ p ∈ pins', s.heap.get? p.1 = some p.2 ∧ H p.1 = none ∧ p.1 ≠ X.env.locals ∧ p.1 ∉ X.fs ∧ ∀ v, p.2.data ≠ .cell v) : Inv X pins' σ H s :=
  ⟨I.ok, I.os, I.bare, I.base, I.loc, I.cell, I.free, I.freeC, fun p hp => (List.mem_append.mp hp).elim (fun z => I.pin p (List.mem_append_left _ z)) (h p), I.hok, I.len⟩

theorem nodup_ix {N : List Str} (hN : N.Nodup) {i j : Nat} {x : Str} (a : N[i]? = some x) (b : N[j]? = some x) : i = j := by
  obtain ⟨h1, e1⟩ := List.getElem?_eq_some_iff.mp a
  obtain ⟨h2, e2⟩ := List.getElem?_eq_some_iff.mp b
  exact (List.getElem_inj hN).mp (e1.trans e2.symm)

theorem store_ok2 {M : Model} {A : Around} {E : Value → Shared → Prop} {i : Nat} {x : Str} {v : V} {u : Value} {Q : Unit → Shared → Prop} (I : Inv X pins σ H s) (hN : X.N.Nodup) (hi : X.N[i]? = some x) (hx : Loc X.env.scope x) (r : RelV v u)
    (h : ∀ s', Inv X pins (σ.set i (some v)) H s' → (∃ a, Heap.SameBut a s.heap s'.heap ∧ (a = X.env.locals ∨ X.env.cells.lookup x = some a)) → Q () s') (hf : X.fn x = true ∨ X.env.scope.names.lookup x = some .local := by first | exact .inl rfl | exact .inr rfl | assumption) : wpAny M A (storeName X.env x u) Q E s := by
  obtain ⟨m, hn, hl⟩ := id I.loc
  have hcls : (X.env.scope.kind == .class || (X.env.scope.kind == .module && X.env.locals != X.env.globals)) = false := by rw [I.ok.kind]; rfl
  have hiσ : i < σ.length := by rw [I.len]; exact (List.getElem?_eq_some_iff.mp hi).1
  have cne := I.cne
  have tracked : ∀ {a : Addr} {h' : Heap}, (∃ o, s.heap.get? a = some o ∧ H a = none) → Heap.SameBut a s.heap h' → HOk X.prog X.w H h' := fun {a h'} ha hs b ob e => by
    obtain ⟨_, _, hfree⟩ := ha
    refine (I.hok b ob e).stay (fun c w' hc q => (hs.2 c ?_).trans q) (fun _ q => q) fun _ _ q => q
    rintro rfl
    rcases hc with rfl | hc
    · rw [hfree] at e; cases e
    · rw [hfree] at hc; cases hc
  rcases hx with hk | hk
  · refine wpAny_storeName_local hk hn (fun h' hn' hs => ?_) hcls
    obtain ⟨oL, _, _, hoL, _⟩ := id hn
    refine h _ ⟨I.ok, I.os, I.bare, ⟨fun b o e n hb hx => ?_, fun b o e n hb hx => ?_, I.base.free, fun b o e hx => ?_, I.base.tups, I.base.frzs, I.base.tbls⟩, ⟨_, hn', fun j y v' e1 e2 e3 => ?_⟩, fun y c e => ?_, I.free, I.freeC, fun p hp => ?_, tracked ⟨oL, hoL, I.free⟩ hs, by simpa using I.len⟩ ⟨_, hs, .inl rfl⟩
    · exact (hs.2 b (Nat.ne_of_lt (Nat.lt_of_lt_of_le (Heap.lt_size e) I.ok.above))).trans (I.base.keep b o e n hb hx)
    · obtain ⟨sl, e1⟩ := I.base.slot b o e n hb hx
      exact ⟨sl, (hs.2 b (Nat.ne_of_lt (Nat.lt_of_lt_of_le (Heap.lt_size e) I.ok.above))).trans e1⟩
    · obtain ⟨o', e1⟩ := I.base.there b o e hx
      exact ⟨o', (hs.2 b (Nat.ne_of_lt (Nat.lt_of_lt_of_le (Heap.lt_size e) I.ok.above))).trans e1⟩
    · by_cases hj : j = i
      · subst hj
        rw [hi] at e1; cases e1
        rw [List.getElem?_set_self hiσ] at e2
        cases e2
        exact ⟨u, r, .inl ⟨hk, by simp⟩⟩
      · rw [List.getElem?_set_ne (Ne.symm hj)] at e2
        obtain ⟨u', r', q⟩ := hl j y v' e1 e2 e3
        refine ⟨u', r', ?_⟩
        rcases q with ⟨k, e⟩ | ⟨k, c, e, z⟩
        · refine .inl ⟨k, ?_⟩
          have : y ≠ x := fun e => hj (nodup_ix hN e1 (e ▸ hi))
          simp [this, e]
        · exact .inr ⟨k, c, e, z.sameBut hs (cne y c e)⟩
    · obtain ⟨w', z⟩ := I.cell y c e
      exact ⟨w', z.sameBut hs (cne y c e)⟩
    · obtain ⟨e, n, ne, nf, d⟩ := I.pin p hp
      exact ⟨(hs.2 p.1 ne).trans e, n, ne, nf, d⟩
  · have hfn : X.fn x = true := by
      rcases hf with z | z
      · exact z
      · rw [z] at hk; cases hk
    obtain ⟨c, hc⟩ := I.ok.has x (.inl hk)
    obtain ⟨w', z⟩ := I.cell x c hc
    refine wpAny_storeName_cell I.ok.kind hk hc z (fun h' hc' hs => ?_)
    obtain ⟨oc, hoc, hocd⟩ := id z
    refine h { s with heap := h' } ⟨I.ok, I.os, I.bare, ⟨fun b o e n hb hx => ?_, fun b o e n hb hx => ?_, I.base.free, fun b o e hx => ?_, I.base.tups, I.base.frzs, I.base.tbls⟩, ⟨m, hn.sameBut hs (Ne.symm (cne x c hc)), fun j y v' e1 e2 e3 => ?_⟩, fun y c' e => ?_, I.free, I.freeC, fun p hp => ?_, tracked ⟨oc, hoc, I.freeC x c hc⟩ hs, by simpa using I.len⟩ ⟨c, hs, .inr hc⟩
    · exact (hs.2 b (Nat.ne_of_lt (Nat.lt_of_lt_of_le (Heap.lt_size e) (I.ok.cab x c hfn hc)))).trans (I.base.keep b o e n hb hx)
    · obtain ⟨sl, e1⟩ := I.base.slot b o e n hb hx
      exact ⟨sl, (hs.2 b (Nat.ne_of_lt (Nat.lt_of_lt_of_le (Heap.lt_size e) (I.ok.cab x c hfn hc)))).trans e1⟩
    · obtain ⟨o', e1⟩ := I.base.there b o e hx
      exact ⟨o', (hs.2 b (Nat.ne_of_lt (Nat.lt_of_lt_of_le (Heap.lt_size e) (I.ok.cab x c hfn hc)))).trans e1⟩
    · by_cases hj : j = i
      · subst hj
        rw [hi] at e1; cases e1
        rw [List.getElem?_set_self hiσ] at e2
        cases e2
        exact ⟨u, r, .inr ⟨.inl hk, c, hc, hc'⟩⟩
      · rw [List.getElem?_set_ne (Ne.symm hj)] at e2
        obtain ⟨u', r', q⟩ := hl j y v' e1 e2 e3
        refine ⟨u', r', ?_⟩
        rcases q with q | ⟨k, c', e, z'⟩
        · exact .inl q
        · refine .inr ⟨k, c', e, z'.sameBut hs ?_⟩
          rintro rfl
          exact hj (nodup_ix hN e1 (I.ok.inj _ _ _ e hc ▸ hi))
    · by_cases hcc : c' = c
      · subst hcc; exact ⟨_, hc'⟩
      · obtain ⟨w2, z2⟩ := I.cell y c' e
        exact ⟨w2, z2.sameBut hs hcc⟩
    · obtain ⟨e, n, ne, nf, d⟩ := I.pin p hp
      refine ⟨(hs.2 p.1 ?_).trans e, n, ne, nf, d⟩
      intro q
      rw [q, hoc] at e
      have q' : oc = p.2 := Option.some.inj e
      exact d w' (by rw [← q']; exact hocd)
theorem store_ok {M : Model} {A : Around} {E : Value → Shared → Prop} {i : Nat} {x : Str} {v : V} {u : Value} {Q : Unit → Shared → Prop} (I : Inv X pins σ H s) (hN : X.N.Nodup) (hi : X.N[i]? = some x) (hx : Loc X.env.scope x) (r : RelV v u)
    (h : ∀ s', Inv X pins (σ.set i (some v)) H s' → Q () s') (hf : X.fn x = true ∨ X.env.scope.names.lookup x = some .local := by first | exact .inl rfl | exact .inr rfl | assumption) : wpAny M A (storeName X.env x u) Q E s :=
  store_ok2 I hN hi hx r (fun s' I' _ => h s' I') hf
theorem Inv.call' {s' : Shared} {ch : List Addr} (I : Inv X pins σ H s) (ho : s'.os = s.os) (u : Un (frs X.stack) ch H H' s.heap s'.heap) (hok : HOk X.prog X.w H' s'.heap) (hg : AllBare s'.gens)
    (hch : ∀ b ∈ ch, (b ∈ X.ex ∨ X.s₀.heap.objs.size ≤ b) ∧ b ≠ X.env.locals ∧ (∀ x c, X.env.cells.lookup x = some c → c ≠ b) ∧ ∀ p ∈ X.pn ++ pins, p.1 ≠ b) : Inv X pins σ H' s' := by
  obtain ⟨h', g', d', t', o'⟩ := s'
  have e : o' = s.os := ho
  subst e
  exact I.call (g' := g') (t' := t') (d' := d') u hok hg hch
end

noncomputable abbrev XK := Value → Option Addr → Hp → Prop
noncomputable abbrev St := List (Option V)
noncomputable abbrev VK := V → Hp → Prop
noncomputable abbrev TE := St → Hp → VK → Prop
noncomputable abbrev TT := St → Hp → (Bool → Hp → Prop) → Prop
noncomputable abbrev TA := St → Hp → (List V → Hp → Prop) → Prop
structure Ends where
  nx : St → Hp → Prop
  rt : VK
  bk : St → Hp → Prop := fun _ _ => False
  ct : St → Hp → Prop := fun _ _ => False
noncomputable abbrev TS := Ends → St → Hp → Prop

noncomputable def EP (X : Cx) (pins : List (Addr × Obj)) (σ : St) (Q : VK) (u : Value) (s' : Shared) : Prop := ∃ v H', Inv X pins σ H' s' ∧ RelV v u ∧ Q v H'
noncomputable def TP (X : Cx) (pins : List (Addr × Obj)) (σ : St) (Q : Bool → Hp → Prop) (b : Bool) (s' : Shared) : Prop := ∃ H', Inv X pins σ H' s' ∧ Q b H'
noncomputable def AP (X : Cx) (pins : List (Addr × Obj)) (σ : St) (Q : List V → Hp → Prop) (us : List Value) (s' : Shared) : Prop := ∃ vs H', Inv X pins σ H' s' ∧ Vals vs us ∧ Q vs H'
noncomputable def SP (X : Cx) (pins : List (Addr × Obj)) (D : Ends) (f : Flow) (s' : Shared) : Prop :=
  match f with
  | .next => ∃ σ' H', Inv X pins σ' H' s' ∧ D.nx σ' H'
  | .brk => ∃ σ' H', Inv X pins σ' H' s' ∧ D.bk σ' H'
  | .cont => ∃ σ' H', Inv X pins σ' H' s' ∧ D.ct σ' H'
  | .ret u => ∃ v σ' H', Inv X pins σ' H' s' ∧ RelV v u ∧ D.rt v H'

noncomputable def PE (X : Cx) (e : Expr) (t : TE) : Prop :=
  ∀ (pins : List (Addr × Obj)) (s : Shared) (σ : St) (H : Hp) (Q : VK), Inv X pins σ H s → t σ H Q → wpAny (model X.prog X.w) X.A (eval e X.env) (EP X pins σ Q) X.xe s
noncomputable def PT (X : Cx) (e : Expr) (t : TT) : Prop :=
  ∀ (pins : List (Addr × Obj)) (s : Shared) (σ : St) (H : Hp) (Q : Bool → Hp → Prop), Inv X pins σ H s → t σ H Q → wpAny (model X.prog X.w) X.A (isTrue e X.env (eval e X.env)) (TP X pins σ Q) X.xe s
noncomputable def PW (X : Cx) (e : Expr) (t : TT) : Prop :=
  ∀ (whole : Sem Value) (pins : List (Addr × Obj)) (s : Shared) (σ : St) (H : Hp) (Q : Bool → Hp → Prop), Inv X pins σ H s → t σ H Q → wpAny (model X.prog X.w) X.A (isTrue e X.env whole) (TP X pins σ Q) X.xe s
theorem PW.pt {X : Cx} {e : Expr} {t : TT} (h : PW X e t) : PT X e t := h _
noncomputable def PA (X : Cx) (es : List Expr) (t : TA) : Prop :=
  ∀ (pos : Pos) (pins : List (Addr × Obj)) (s : Shared) (σ : St) (H : Hp) (Q : List V → Hp → Prop), Inv X pins σ H s → t σ H Q → wpAny (model X.prog X.w) X.A (spliced (backTo pos (starEach es X.env))) (AP X pins σ Q) X.xe s
noncomputable def PS (X : Cx) (st : Stmt) (t : TS) : Prop :=
  ∀ (pins : List (Addr × Obj)) (s : Shared) (σ : St) (H : Hp) (D : Ends), Inv X pins σ H s → t D σ H → wpAny (model X.prog X.w) X.A (exec st X.env) (SP X pins D) X.xe s
noncomputable def PSs (X : Cx) (st : List Stmt) (t : TS) : Prop :=
  ∀ (pins : List (Addr × Obj)) (s : Shared) (σ : St) (H : Hp) (D : Ends), Inv X pins σ H s → t D σ H → wpAny (model X.prog X.w) X.A (execs st X.env) (SP X pins D) X.xe s
theorem thn {α : Type} {t : Sem α} {Q Q' : α → Shared → Prop} {M : Model} {A : Around} {E : Value → Shared → Prop} {s : Shared} (h : wpAny M A t Q E s) (hQ : ∀ a s, Q a s → Q' a s) : wpAny M A t Q' E s := wpAny_mono h hQ fun _ _ x => x
end L2

namespace L2
open PySem PySem.Spec PyProof.Rows
section
variable {X : Cx}


inductive tVar (i : Nat) (σ : St) (H : Hp) (Q : VK) : Prop
  | mk : ∀ v, (σ[i]? = some (some v)) → (Q v H) → tVar i σ H Q
noncomputable def tC (v : V) : TE := fun _ H Q => Q v H
theorem pe_var {i : Nat} {x : Str} {pos : Pos} (hN : X.N[i]? = some x) (hv : Vis X.env.scope x) (hd : (x == ("__debug__" : Str)) = false := by decide) (hcd : (x == ("__classdict__" : Str)) = false := by decide) : PE X (.Name x pos) (tVar i) := by
  intro pins s σ H Q I h
  obtain ⟨v, e, h⟩ := h
  obtain ⟨m, hn, hl⟩ := I.loc
  obtain ⟨u, r, l⟩ := hl i x v hN e hv
  have fin : EP X pins σ Q u s := ⟨v, H, I, r, h⟩
  rcases l with ⟨hk, hm⟩ | ⟨hk, c, hc, hcell⟩
  · exact wpAny_Name (wpAny_loadName_local I.ok.kind hk hn hm fin) hd
  · rcases hk with hk | hk
    · exact wpAny_Name (wpAny_loadName_cell I.ok.kind hk hc hcell fin) hd
    · exact wpAny_Name (wpAny_loadName_free I.ok.kind hk hc hcell fin hcd) hd
theorem pe_int {i j pos} : PE X (.Constant (.int i) j pos) (tC (.int i)) := fun _ _ _ H _ I h => wpAny_Constant_int ⟨.int i, H, I.tok _, ⟨_, rfl⟩, h⟩
theorem pe_bl {b j pos} : PE X (.Constant (.bool b) j pos) (tC (.bl b)) := fun _ _ _ H _ I h => Constant_bool ⟨.bl b, H, I, rfl, h⟩
theorem pe_non {j pos} : PE X (.Constant .none j pos) (tC .non) := fun _ _ _ H _ I h => Constant_none ⟨.non, H, I, rfl, h⟩
theorem pe_str {x j pos} : PE X (.Constant (.str x) j pos) (tC (.str x)) := fun _ _ _ H _ I h => Calls.Constant_str ⟨.str x, H, I.tok _, ⟨_, rfl⟩, h⟩

noncomputable def Gl (X : Cx) (x : Str) : Prop := X.env.kindOf x = some .globalImplicit
theorem ld_glob {E : Value → Shared → Prop} {pins : List (Addr × Obj)} {s : Shared} {σ : St} {H : Hp} {x : Str} {u : Value} {pos : Pos} {Q : Value → Shared → Prop} (I : Inv X pins σ H s) (hg : Gl X x) (hm : X.mg x = some u) (h : Q u s)
    (hd : (x == ("__debug__" : Str)) = false := by decide) : wpAny (model X.prog X.w) X.A (eval (.Name x pos) X.env) Q E s :=
  Calls.Name_function_global I.ok.kind hg (Calls.loadGlobal_global (by rw [I.ok.glob]; exact I.mod.glob.keeps I.bk) hm h) hd
theorem ld_blt {E : Value → Shared → Prop} {pins : List (Addr × Obj)} {s : Shared} {σ : St} {H : Hp} {x : Str} {u : Value} {pos : Pos} {Q : Value → Shared → Prop} (I : Inv X pins σ H s) (hg : Gl X x) (hm : X.mg x = none) (hv : bootBuiltins x = some u) (h : Q u s)
    (hn : x ≠ "__name__" := by decide) (hd : (x == ("__debug__" : Str)) = false := by decide) : wpAny (model X.prog X.w) X.A (eval (.Name x pos) X.env) Q E s := by
  obtain ⟨mb, h1, h2⟩ := I.mod.blt
  exact Calls.Name_function_global I.ok.kind hg (Calls.loadGlobal_builtin (by rw [I.ok.glob]; exact I.mod.glob.keeps I.bk) hm (by rw [I.ok.blt]; exact h1.keeps I.bk) ((h2 x hn).trans hv) h) hd
theorem pe_glob {x : Str} {v : V} {u : Value} {pos : Pos} (hg : Gl X x) (hm : X.mg x = some u) (r : RelV v u) (hd : (x == ("__debug__" : Str)) = false := by decide) : PE X (.Name x pos) (tC v) :=
  fun _ _ _ H _ I h => ld_glob I hg hm ⟨v, H, I, r, h⟩ hd
theorem pe_bltn {x : Str} {v : V} {u : Value} {pos : Pos} (hg : Gl X x) (hm : X.mg x = none) (hv : bootBuiltins x = some u) (r : RelV v u) (hn : x ≠ "__name__" := by decide) (hd : (x == ("__debug__" : Str)) = false := by decide) : PE X (.Name x pos) (tC v) :=
  fun _ _ _ H _ I h => ld_blt I hg hm hv ⟨v, H, I, r, h⟩ hn hd

variable {a b : Expr} {ta tb : TE} {pos : Pos}

inductive IsB (x : V) (H : Hp) (Q : Bool → Hp → Prop) : Prop
  | mk : ∀ c, (x = .bl c) → (Q c H) → IsB x H Q

variable {tA tB' : TT} {rest : List Expr}
noncomputable def tAnd_k1 (u : TT) (σ : St) (Q : (Bool → Hp → Prop)) : Bool → Hp → Prop := fun c H1 => if c = true then u σ H1 Q else Q false H1
noncomputable def tAnd (t u : TT) : TT := fun σ H Q => t σ H (tAnd_k1 u σ Q)
noncomputable def tOr_k1 (u : TT) (σ : St) (Q : (Bool → Hp → Prop)) : Bool → Hp → Prop := fun c H1 => if c = true then Q true H1 else u σ H1 Q
noncomputable def tOr (t u : TT) : TT := fun σ H Q => t σ H (tOr_k1 u σ Q)
noncomputable def tNot_k1 (Q : (Bool → Hp → Prop)) : Bool → Hp → Prop := fun c H1 => Q (!c) H1
noncomputable def tNot (t : TT) : TT := fun σ H Q => t σ H (tNot_k1 Q)
theorem pw_and1 (ha : PT X a tA) : PW X (.BoolOp .And [a] pos) tA := by
  intro wh pins s σ H Q I h
  refine isTrue_and (thn (ha pins s σ H Q I h) fun c s1 e => ?_)
  cases c with
  | true => exact isTrue_and_nil e
  | false => exact e
theorem pw_or1 (ha : PT X a tA) : PW X (.BoolOp .Or [a] pos) tA := by
  intro wh pins s σ H Q I h
  refine isTrue_or (thn (ha pins s σ H Q I h) fun c s1 e => ?_)
  cases c with
  | false => exact isTrue_or_nil e
  | true => exact e
theorem pw_and (ha : PT X a tA) (hb : PW X (.BoolOp .And (b :: rest) pos) tB') : PW X (.BoolOp .And (a :: b :: rest) pos) (tAnd tA tB') := by
  intro wh pins s σ H Q I h
  refine isTrue_and (thn (ha pins s σ H _ I h) fun c s1 zq7 => ?_)
  obtain ⟨H1, I1, q1⟩ := zq7
  cases c with
  | true => exact hb wh pins s1 σ H1 Q I1 q1
  | false => exact ⟨H1, I1, q1⟩
theorem pw_or (ha : PT X a tA) (hb : PW X (.BoolOp .Or (b :: rest) pos) tB') : PW X (.BoolOp .Or (a :: b :: rest) pos) (tOr tA tB') := by
  intro wh pins s σ H Q I h
  refine isTrue_or (thn (ha pins s σ H _ I h) fun c s1 zq8 => ?_)
  obtain ⟨H1, I1, q1⟩ := zq8
  cases c with
  | true => exact ⟨H1, I1, q1⟩
  | false => exact hb wh pins s1 σ H1 Q I1 q1
theorem pt_not (ha : PT X a tA) : PT X (.UnaryOp .Not a pos) (tNot tA) := by
  intro pins s σ H Q I h
  exact isTrue_not (ha pins s σ H (fun c H1 => Q (!c) H1) I h)
noncomputable def tAndV_k1 (tb : TE) (σ : St) (Q : VK) : Bool → Hp → Prop := fun c H1 => if c = true then tb σ H1 Q else Q (.bl false) H1
noncomputable def tAndV_k2 (tb : TE) (σ : St) (Q : VK) : V → Hp → Prop := fun x H1 => IsB x H1 (tAndV_k1 tb σ Q)
noncomputable def tAndV (ta tb : TE) : TE := fun σ H Q => ta σ H (tAndV_k2 tb σ Q)
theorem pe_one {op} {t : TE} (h : PE X a t) : PE X (.BoolOp op [a] pos) t := fun pins s σ H Q I hw => BoolOp_one (h pins s σ H Q I hw)
theorem pe_and (ha : PE X a ta) (hb : PE X (.BoolOp .And (b :: rest) pos) tb) : PE X (.BoolOp .And (a :: b :: rest) pos) (tAndV ta tb) := by
  intro pins s σ H Q I h
  refine BoolOp_and (thn (ha pins s σ H _ I h) fun v s1 zq9 => ?_)
  obtain ⟨x, H1, I1, r1, q1⟩ := zq9
  obtain ⟨c, rfl, q1⟩ := q1
  cases r1
  refine wpAny_truthy_bool ?_
  cases c with
  | true => exact hb pins s1 σ H1 Q I1 q1
  | false => exact ⟨.bl false, H1, I1, rfl, q1⟩
noncomputable def tIf_k1 (ta : TE) (tb : TE) (σ : St) (Q : VK) : Bool → Hp → Prop := fun c H1 => if c = true then ta σ H1 Q else tb σ H1 Q
noncomputable def tIf (t : TT) (ta tb : TE) : TE := fun σ H Q => t σ H (tIf_k1 ta tb σ Q)
theorem pe_ifExp {c : Expr} (hc : PT X c tA) (ha : PE X a ta) (hb : PE X b tb) : PE X (.IfExp c a b pos) (tIf tA ta tb) := by
  intro pins s σ H Q I h
  refine wpAny_IfExp (thn (hc pins s σ H _ I h) fun d s1 zq12 => ?_)
  obtain ⟨H1, I1, q1⟩ := zq12
  cases d with
  | true => exact ha pins s1 σ H1 Q I1 q1
  | false => exact hb pins s1 σ H1 Q I1 q1
end
end L2

namespace L2
open PySem PySem.Spec PyProof.Rows

noncomputable def SqL (K : PySem.W.Frag) (H : Hp) (a : Addr) (xs : List V) : Prop :=
  Rd H a (.lst xs) ∨
    ∃ (o : Obj) (its : Array Value) (n : Nat), K.lookup a = some o ∧ o.cls = .type "list" ∧ o.dict = none ∧ o.data = .seq its n ∧ its.size ≤ sizeLine ∧ Vals xs its.toList
noncomputable def SqT (K : PySem.W.Frag) (H : Hp) (a : Addr) (xs : List V) : Prop :=
  Rd H a (.tup xs) ∨
    ∃ (o : Obj) (its : Array Value) (n : Nat), K.lookup a = some o ∧ o.cls = .type "tuple" ∧ o.data = .seq its n ∧ its.size ≤ sizeLine ∧ Vals xs its.toList
noncomputable def absV : Value → Option V
  | .none => some .non
  | .bool b => some (.bl b)
  | .int i _ => some (.int i)
  | .str x _ => some (.str x)
  | .bytes b _ => some (.byt b)
  | .float b _ => some (.flt b)
  | .ref a => some (.ref a)
  | .type n => some (.ty n)
  | _ => none
theorem RelV.abs {x : V} {u : Value} (r : RelV x u) : absV u = some x := by
  cases x with
  | non => cases r; rfl
  | bl _ => cases r; rfl
  | int _ => obtain ⟨t, rfl⟩ := r; rfl
  | str _ => obtain ⟨t, rfl⟩ := r; rfl
  | byt _ => obtain ⟨t, rfl⟩ := r; rfl
  | flt _ => obtain ⟨t, rfl⟩ := r; rfl
  | ref _ => cases r; rfl
  | ty _ => cases r; rfl
theorem RelV.inj {x y : V} {u : Value} (r : RelV x u) (q : RelV y u) : x = y := Option.some.inj (r.abs.symm.trans q.abs)
theorem Vals.inj : ∀ {xs ys : List V} {us : List Value}, Vals xs us → Vals ys us → xs = ys
  | _, _, _, .nil, .nil => rfl
  | _, _, _, .cons r t, .cons r' t' => by rw [r.inj r', Vals.inj t t']
section
variable {X : Cx} {pins : List (Addr × Obj)} {σ : St} {H : Hp} {s : Shared} {a : Addr} {xs ys : List V}
theorem SqL.of {K : PySem.W.Frag} (h : H a = some (.lst xs)) : SqL K H a xs := .inl (.inl h)
theorem SqT.of {K : PySem.W.Frag} (h : H a = some (.tup xs)) : SqT K H a xs := .inl (.inl h)
theorem Inv.list (I : Inv X pins σ H s) (h : SqL X.K H a xs) : ∃ its : List Value, Vals xs its ∧ PlainL s.heap a its.toArray ∧ xs.length ≤ sizeLine := by
  rcases h with h | ⟨o, its, n, hk, hc, hd, hs, hz, r⟩
  · obtain ⟨z, its, n, r, e⟩ := h.ok I.hok
    exact ⟨its, r, ⟨_, n, e, rfl, rfl, rfl⟩, z⟩
  · refine ⟨its.toList, r, ⟨o, n, I.kIn a o hk, hc, hd, by simpa using hs⟩, ?_⟩
    have e := r.length
    simp only [Array.length_toList] at e
    omega
theorem Inv.tuple (I : Inv X pins σ H s) (h : SqT X.K H a xs) : ∃ its : List Value, Vals xs its ∧ IsTup s.heap a its.toArray ∧ xs.length ≤ sizeLine := by
  rcases h with h | ⟨o, its, n, hk, hc, hs, hz, r⟩
  · obtain ⟨z, its, r, p, _⟩ := h.ok I.hok
    exact ⟨its, r, p, z⟩
  · refine ⟨its.toList, r, ⟨o, I.kIn a o hk, hc, n, by simpa using hs⟩, ?_⟩
    have e := r.length
    simp only [Array.length_toList] at e
    omega
theorem Inv.list_inj (I : Inv X pins σ H s) (h : SqL X.K H a xs) (h' : SqL X.K H a ys) : xs = ys := by
  obtain ⟨its, r, ⟨o, n, e, _, _, d⟩, _⟩ := I.list h
  obtain ⟨its', r', ⟨o', n', e', _, _, d'⟩, _⟩ := I.list h'
  rw [e] at e'; cases e'
  rw [d] at d'
  injection d' with d1 _
  have : its = its' := by simpa using congrArg Array.toList d1
  subst this
  exact r.inj r'
theorem Inv.tuple_inj (I : Inv X pins σ H s) (h : SqT X.K H a xs) (h' : SqT X.K H a ys) : xs = ys := by
  obtain ⟨its, r, ⟨o, e, _, n, d⟩, _⟩ := I.tuple h
  obtain ⟨its', r', ⟨o', e', _, n', d'⟩, _⟩ := I.tuple h'
  rw [e] at e'; cases e'
  rw [d] at d'
  injection d' with d1 _
  have : its = its' := by simpa using congrArg Array.toList d1
  subst this
  exact r.inj r'
end

noncomputable abbrev Cx.wish (X : Cx) (E : Value → Shared → Prop) : Cx := { X with xe := E }
noncomputable abbrev Cx.nox (X : Cx) : Cx := X.wish fun _ _ => False
theorem Cx.Ok.wish {X : Cx} (ok : X.Ok) (E : Value → Shared → Prop) : (X.wish E).Ok :=
  ⟨ok.mod, ok.kind, ok.glob, ok.blt, ok.above, ok.inj, ok.has, ok.cab, ok.hd, ok.frames, ok.stk, ok.exf, ok.bs, ok.bsz, ok.noex, ok.exfs, ok.funs, ok.frf⟩
theorem Cx.Ok.unwish {X : Cx} {E : Value → Shared → Prop} (ok : (X.wish E).Ok) : X.Ok :=
  ⟨ok.mod, ok.kind, ok.glob, ok.blt, ok.above, ok.inj, ok.has, ok.cab, ok.hd, ok.frames, ok.stk, ok.exf, ok.bs, ok.bsz, ok.noex, ok.exfs, ok.funs, ok.frf⟩
section
variable {X : Cx} {pins : List (Addr × Obj)} {σ : St} {H : Hp} {s : Shared} {E : Value → Shared → Prop}
theorem Inv.wish (I : Inv X pins σ H s) (E : Value → Shared → Prop) : Inv (X.wish E) pins σ H s := ⟨I.ok.wish E, I.os, I.bare, I.base, I.loc, I.cell, I.free, I.freeC, I.pin, I.hok, I.len⟩
theorem Inv.unwish (I : Inv (X.wish E) pins σ H s) : Inv X pins σ H s := ⟨I.ok.unwish, I.os, I.bare, I.base, I.loc, I.cell, I.free, I.freeC, I.pin, I.hok, I.len⟩
theorem SP.unwish {D : Ends} {f : Flow} {s' : Shared} (h : SP (X.wish E) pins D f s') : SP X pins D f s' := by
  cases f with
  | next => obtain ⟨σ', H', I, q⟩ := h; exact ⟨σ', H', I.unwish, q⟩
  | brk => obtain ⟨σ', H', I, q⟩ := h; exact ⟨σ', H', I.unwish, q⟩
  | cont => obtain ⟨σ', H', I, q⟩ := h; exact ⟨σ', H', I.unwish, q⟩
  | ret u => obtain ⟨v, σ', H', I, r, q⟩ := h; exact ⟨v, σ', H', I.unwish, r, q⟩
theorem PSs.nox {st : List Stmt} {t : TS} (h : PSs X.nox st t) : PSs X st t := fun pins s σ H D I hw =>
  wpAny_mono (h pins s σ H D (I.wish _) hw) (fun _ _ q => q.unwish) fun _ _ z => False.elim z
end

section
variable {X : Cx} {st : Stmt} {rest : List Stmt} {t u : TS} {e : Expr} {te : TE} {pos : Pos}
noncomputable def tNext : TS := fun D σ H => D.nx σ H
noncomputable def tSeq (t u : TS) : TS := fun D σ H => t { D with nx := u D } σ H
theorem pss_nil : PSs X [] tNext := fun _ _ σ H _ I h => wpAny_execs_nil ⟨σ, H, I, h⟩
theorem pss_cons (h1 : PS X st t) (h2 : PSs X rest u) : PSs X (st :: rest) (tSeq t u) := by
  intro pins s σ H D I h
  refine wpAny_execs_cons (thn (h1 pins s σ H { D with nx := u D } I h) fun f s1 q => ?_)
  cases f with
  | next =>
    obtain ⟨σ', H', I', q⟩ := q
    exact h2 pins s1 σ' H' D I' q
  | ret v => exact q
  | brk => exact q
  | cont => exact q
theorem pss_one (h1 : PS X st t) : PSs X [st] t := by
  intro pins s σ H D I h
  refine wpAny_execs_cons (thn (h1 pins s σ H D I h) fun f s1 q => ?_)
  cases f with
  | next => exact wpAny_execs_nil q
  | ret v => exact q
  | brk => exact q
  | cont => exact q
theorem Inv.quiet {pins : List (Addr × Obj)} {σ : St} {H : Hp} {s : Shared} (I : Inv X pins σ H s) : interactive X.env = false := by simp [interactive, I.ok.kind]
noncomputable def tDrop_k1 (D : Ends) (σ : St) : V → Hp → Prop := fun _ H1 => D.nx σ H1
noncomputable def tDrop (te : TE) : TS := fun D σ H => te σ H (tDrop_k1 D σ)
theorem ps_expr (he : PE X e te) (hs : swapsWith e none pos.line X.env = pure false := by rfl) : PS X (.Expr e pos) (tDrop te) := by
  intro pins s σ H D I h
  exact wpAny_Expr_any (thn (he pins s σ H _ I h) fun v s1 zq15 => (by obtain ⟨x, H1, I1, r1, q1⟩ := zq15; exact ⟨σ, H1, I1, q1⟩)) I.quiet hs
noncomputable def tRet (te : TE) : TS := fun D σ H => te σ H D.rt
theorem ps_ret (he : PE X e te) : PS X (.Return (some e) pos) (tRet te) := by
  intro pins s σ H D I h
  exact wpAny_Return_some (thn (he pins s σ H _ I h) fun v s1 zq16 => (by obtain ⟨x, H1, I1, r1, q1⟩ := zq16; exact ⟨x, σ, H1, I1, r1, q1⟩))
noncomputable def tIfS_k1 (t : TS) (u : TS) (D : Ends) (σ : St) : Bool → Hp → Prop := fun b H1 => if b = true then t D σ H1 else u D σ H1
noncomputable def tIfS (c : TT) (t u : TS) : TS := fun D σ H => c σ H (tIfS_k1 t u D σ)
theorem ps_if {c : Expr} {a b : List Stmt} {tc : TT} (hc : PT X c tc) (ha : PSs X a t) (hb : PSs X b u) : PS X (.If c a b pos) (tIfS tc t u) := by
  intro pins s σ H D I h
  refine wpAny_If (thn (hc pins s σ H _ I h) fun d s1 zq17 => ?_)
  obtain ⟨H1, I1, q1⟩ := zq17
  cases d with
  | true => exact ha pins s1 σ H1 D I1 q1
  | false => exact hb pins s1 σ H1 D I1 q1
end

noncomputable abbrev TG := V → St → Hp → (St → Hp → Prop) → Prop
noncomputable def PG (X : Cx) (target : Expr) (t : TG) : Prop :=
  ∀ (pins : List (Addr × Obj)) (s : Shared) (σ : St) (H : Hp) (v : V) (u : Value) (Q : St → Hp → Prop), Inv X pins σ H s → RelV v u → t v σ H Q →
    wpAny (model X.prog X.w) X.A (assign target X.env u) (fun _ s' => ∃ σ' H', Inv X pins σ' H' s' ∧ Q σ' H') X.xe s
noncomputable abbrev TIp := V → V → Hp → VK → Prop
noncomputable def PIp (X : Cx) (op : Operator) (t : TIp) : Prop :=
  ∀ (pins : List (Addr × Obj)) (s : Shared) (σ : St) (H : Hp) (x y : V) (v u : Value) (Q : VK), Inv X pins σ H s → RelV x v → RelV y u → t x y H Q →
    wpAny (model X.prog X.w) X.A (inplaceOp op v u) (EP X pins σ Q) X.xe s
section
variable {X : Cx} {pos : Pos}
noncomputable def gName (i : Nat) : TG := fun v σ H Q => Q (σ.set i (some v)) H
theorem pg_name {i : Nat} {x : Str} (hN : X.N.Nodup) (hi : X.N[i]? = some x) (hx : Loc X.env.scope x) (hf : X.fn x = true ∨ X.env.scope.names.lookup x = some .local := by first | exact .inl rfl | exact .inr rfl | assumption) : PG X (.Name x pos) (gName i) := by
  intro pins s σ H v u Q I r h
  exact wpAny_assign_Name (store_ok I hN hi hx r (fun s' I' => ⟨_, H, I', h⟩) hf)
noncomputable def tAsg_k1 (g : TG) (D : Ends) (σ : St) : V → Hp → Prop := fun x H1 => g x σ H1 D.nx
noncomputable def tAsg (te : TE) (g : TG) : TS := fun D σ H => te σ H (tAsg_k1 g D σ)
theorem ps_set {i : Nat} {x : Str} {e : Expr} {te : TE} {pos' : Pos} (hN : X.N.Nodup) (hi : X.N[i]? = some x) (hx : Loc X.env.scope x) (he : PE X e te) (hs : swapsWith e (some (.Name x pos')) pos.line X.env = pure false := by rfl) (hf : X.fn x = true ∨ X.env.scope.names.lookup x = some .local := by first | exact .inl rfl | exact .inr rfl | assumption) :
    PS X (.Assign [.Name x pos'] e pos) (tAsg te (gName i)) := by
  intro pins s σ H D I h
  refine wpAny_Assign_Name (thn (he pins s σ H _ I h) fun v s1 zq23 => ?_) hs
  obtain ⟨y, H1, I1, r1, q1⟩ := zq23
  exact store_ok I1 hN hi hx r1 (fun s2 I2 => ⟨_, H1, I2, q1⟩) hf
inductive tAug (i : Nat) (te : TE) (ti : TIp) (D : Ends) (σ : St) (H : Hp) : Prop
  | mk : ∀ x, (σ[i]? = some (some x)) → (te σ H fun y H1 => ti x y H1 fun z H2 => D.nx (σ.set i (some z)) H2) → tAug i te ti D σ H
theorem ps_aug {i : Nat} {x : Str} {e : Expr} {te : TE} {op : Operator} {ti : TIp} {pos' : Pos} (hN : X.N.Nodup) (hi : X.N[i]? = some x) (hx : Loc X.env.scope x) (he : PE X e te) (ho : PIp X op ti) (hf : X.fn x = true ∨ X.env.scope.names.lookup x = some .local := by first | exact .inl rfl | exact .inr rfl | assumption) :
    PS X (.AugAssign (.Name x pos') op e pos) (tAug i te ti) := by
  intro pins s σ H D I h
  obtain ⟨v, e1, h⟩ := h
  obtain ⟨m, hn, hl⟩ := I.loc
  have vis : Vis X.env.scope x := by rcases hx with k | k; exact .inl k; exact .inr (.inl k)
  obtain ⟨u, r, l⟩ := hl i x v hi e1 vis
  refine wpAny_AugAssign_Name ?_
  have go : wpAny (model X.prog X.w) X.A (eval e X.env) (fun w s₂ => wpAny (model X.prog X.w) X.A (inplaceOp op u w) (fun r s₃ => wpAny (model X.prog X.w) X.A (storeName X.env x r) (fun _ => SP X pins D .next) X.xe s₃) X.xe s₂) X.xe s := by
    refine thn (he pins s σ H _ I h) fun w s1 zq25 => ?_
    obtain ⟨y, H1, I1, r1, q1⟩ := zq25
    refine thn (ho pins s1 σ H1 v y u w _ I1 r r1 q1) fun z s2 zq26 => ?_
    obtain ⟨zv, H2, I2, r2, q2⟩ := zq26
    exact store_ok I2 hN hi hx r2 (fun s3 I3 => ⟨_, H2, I3, q2⟩) hf
  rcases l with ⟨hk, hm⟩ | ⟨hk, c, hc, hcell⟩
  · exact wpAny_loadName_local I.ok.kind hk hn hm go
  · rcases hk with hk | hk
    · exact wpAny_loadName_cell I.ok.kind hk hc hcell go
    · rcases hx with k | k
      · have : X.env.scope.names.lookup x = some .free := hk
        rw [k] at this; cases this
      · have : X.env.scope.names.lookup x = some .free := hk
        rw [k] at this; cases this
noncomputable def ipI (f : Int → Int → Int) : TIp := fun x y H Q => ∃ i j, x = .int i ∧ y = .int j ∧ Q (.int (f i j)) H
theorem ip_add : PIp X .Add (ipI fun i j => i + j) := by
  intro pins s σ H x y v u Q I r1 r2 h
  obtain ⟨i, j, e1, e2, q⟩ := h
  subst e1; subst e2
  obtain ⟨t, rfl⟩ := r1
  obtain ⟨t', rfl⟩ := r2
  exact iadd_int ⟨.int _, H, I.tok _, ⟨_, rfl⟩, q⟩
end

section
variable {X : Cx} {pos : Pos}
noncomputable def tWhile (c : TT) (tb : TS) : TS := fun D σ H => ∃ W : Nat → St → Hp → Prop, (∃ m, W m σ H) ∧ ∀ m σ H, W m σ H →
  c σ H fun b H1 => if b = true then ∃ N : St → Hp → Prop, (∀ σ' H', N σ' H' → ∃ m', m' < m ∧ W m' σ' H') ∧ tb { D with nx := N, ct := N, bk := D.nx } σ H1 else D.nx σ H1
theorem ps_while {c : Expr} {body : List Stmt} {tc : TT} {tb : TS} (hp : PassesOwn (model X.prog X.w) X.A X.env X.xe) (hc : PT X c tc) (hb : PSs X body tb) : PS X (.While c body [] pos) (tWhile tc tb) := by
  intro pins s σ H D I h
  obtain ⟨W, ⟨m0, w0⟩, turn⟩ := h
  refine wpAny_While (codeAny_whileLoop (fun n s' => ∃ σ' H', Inv X pins σ' H' s' ∧ W n σ' H') ?_ m0 ⟨σ, H, I, w0⟩)
  rintro n s1 ⟨σ1, H1, I1, w1⟩
  refine wpAny_passesOwn hp (thn (hc pins s1 σ1 H1 _ I1 (turn n σ1 H1 w1)) fun b s2 zq33 => ?_)
  obtain ⟨H2, I2, q2⟩ := zq33
  cases b with
  | true =>
    obtain ⟨N, hN, q2⟩ := q2
    rw [if_pos rfl]
    refine wpAny_passesOwn hp (thn (hb pins s2 σ1 H2 _ I2 q2) fun f s3 q3 => ?_)
    cases f with
    | next =>
      obtain ⟨σ3, H3, I3, n3⟩ := q3
      obtain ⟨m', hm, w3⟩ := hN σ3 H3 n3
      exact ⟨m', hm, σ3, H3, I3, w3⟩
    | cont =>
      obtain ⟨σ3, H3, I3, n3⟩ := q3
      obtain ⟨m', hm, w3⟩ := hN σ3 H3 n3
      exact ⟨m', hm, σ3, H3, I3, w3⟩
    | brk => exact q3
    | ret v => exact q3
  | false =>
    rw [if_neg Bool.false_ne_true]
    exact wpAny_execs_nil ⟨σ1, H2, I2, q2⟩
end

structure It where
  go : Nat → Hp → Prop
  yld : Nat → Hp → V → Hp → Prop
  stop : Nat → Hp → Prop
noncomputable def FpOk (X : Cx) (pins : List (Addr × Obj)) (H : Hp) (b : Addr) : Prop :=
  H b = none ∧ b ≠ X.env.locals ∧ b ∉ X.fs ∧ (b ∈ X.ex ∨ X.s₀.heap.objs.size ≤ b) ∧ (∀ x c, X.env.cells.lookup x = some c → c ≠ b) ∧ ∀ p ∈ X.pn ++ pins, p.1 ≠ b
theorem Inv.fpOk {X : Cx} {pins : List (Addr × Obj)} {σ : St} {H H' : Hp} {s : Shared} {b : Addr} (I : Inv X pins σ H s) (hb : s.heap.objs.size ≤ b) (hn : H' b = none) : FpOk X pins H' b := by
  refine ⟨hn, Nat.ne_of_gt (Nat.lt_of_lt_of_le I.lt hb), I.nofs hb, .inr (Nat.le_trans I.sz hb), fun x c e z => ?_, fun p hp z => ?_⟩
  · obtain ⟨v, q⟩ := I.cell x c e
    exact absurd (Nat.lt_of_lt_of_le q.lt (by rw [z]; exact hb)) (Nat.lt_irrefl _)
  · exact absurd (Nat.lt_of_lt_of_le (Heap.lt_size (I.pin p hp).1) (by rw [z]; exact hb)) (Nat.lt_irrefl _)
structure Turn (P : Program) (w : World) (K : PySem.W.Frag) (tg : Expr) (J : It) (fp : List Addr) (it : Addr) (tn : Nat → Heap → Prop) : Prop where
  mem : it ∈ fp
  obj : ∀ i h, tn i h → ∀ b ∈ fp, ∃ o, h.get? b = some o ∧ ∀ v, o.data ≠ .cell v
  keep : ∀ i h h', tn i h → (∀ b ∈ fp, ∀ o, h.get? b = some o → h'.get? b = some o) → tn i h'
  item : ∀ (X : Cx), X.prog = P → X.w = w → X.K = K → X.calm = true → ∀ (i : Nat) (pins : List (Addr × Obj)) (s : Shared) (σ : St) (H : Hp) (E : Value → Shared → Prop), Inv X pins σ H s → (∀ b ∈ fp, FpOk X pins H b) → tn i s.heap → J.go i H →
    wpAny (model P w) X.A (pyNext (.ref it)) (fun r s1 => ∃ u, r = some u ∧
      wpAny (model P w) X.A (letOwnedTupleGo tg (.ref it) u) (fun _ s2 => ∃ x H', Inv X pins σ H' s2 ∧ RelV x u ∧ J.yld i H x H' ∧ tn (i + 1) s2.heap ∧ ∀ b ∈ fp, H' b = none) E s1) E s
  done : ∀ (X : Cx), X.prog = P → X.w = w → X.K = K → X.calm = true → ∀ (i : Nat) (pins : List (Addr × Obj)) (s : Shared) (σ : St) (H : Hp) (E : Value → Shared → Prop), Inv X pins σ H s → (∀ b ∈ fp, FpOk X pins H b) → tn i s.heap → J.stop i H →
    wpAny (model P w) X.A (pyNext (.ref it)) (fun r s1 => r = none ∧ Inv X pins σ H s1) E s
  self : ∀ (A : Around) (i : Nat) (s : Shared) (Q : Value → Shared → Prop) (E : Value → Shared → Prop), tn i s.heap → Q (.ref it) s → wpAny (model P w) A (pyIter (.ref it)) Q E s
noncomputable abbrev TI := St → Hp → (It → Hp → Prop) → Prop
noncomputable def PIE (X : Cx) (pins : List (Addr × Obj)) (σ : St) (tg : Expr) (R : It → Hp → Prop) (itv : Value) (s2 : Shared) : Prop :=
  ∃ (it : Addr) (fp : List Addr) (tn : Nat → Heap → Prop) (J : It) (H' : Hp), itv = .ref it ∧ Inv X pins σ H' s2 ∧ Turn X.prog X.w X.K tg J fp it tn ∧ tn 0 s2.heap ∧ (∀ b ∈ fp, FpOk X pins H' b) ∧ R J H'
noncomputable def PI (X : Cx) (tg iter : Expr) (wi : TI) : Prop :=
  ∀ (pins : List (Addr × Obj)) (s : Shared) (σ : St) (H : Hp) (R : It → Hp → Prop), Inv X pins σ H s → wi σ H R →
    wpAny (model X.prog X.w) X.A (eval iter X.env) (fun v s1 => wpAny (model X.prog X.w) X.A (pyIter v) (PIE X pins σ tg R) X.xe s1) X.xe s

theorem go_of {M : Model} {A : Around} {E : Value → Shared → Prop} {s : Shared} {tg : Expr} {it : Addr} {u : Value} {o : Obj} {n : String} {vs : Array Value} {Q : Unit → Shared → Prop} (ho : s.heap.get? it = some o) (hc : o.cls = .type n) (hd : o.data = .fields vs)
    (hn : ["enumerate", "zip", "dict_itemiterator", "dict_reverseitemiterator", "odict_iterator", "itertools.zip_longest", "itertools.pairwise"].contains n = false) (hQ : Q () s) : wpAny M A (letOwnedTupleGo tg (.ref it) u) Q E s := by
  unfold letOwnedTupleGo
  cases tg <;> first
    | exact wpAny_pure hQ
    | (cases u <;> first
        | exact wpAny_pure hQ
        | (refine wpAny_bind (wpAny_load ho ?_)
           rw [hc, hd]
           show wpAny M A (if (["enumerate", "zip", "dict_itemiterator", "dict_reverseitemiterator", "odict_iterator", "itertools.zip_longest", "itertools.pairwise"].contains n && vs[0]? == some (rawInt _)) = true then _ else _) Q E s
           rw [if_neg (by intro h; rw [hn, Bool.false_and] at h; cases h)]
           exact wpAny_pure hQ))

noncomputable def Itl (K : PySem.W.Frag) (a : Addr) : It :=
  ⟨fun i H => ∃ xs x, SqL K H a xs ∧ xs[i]? = some x, fun i H x H' => H' = H ∧ ∀ xs, SqL K H a xs → xs[i]? = some x, fun i H => ∃ xs, SqL K H a xs ∧ xs.length ≤ i⟩
noncomputable def Itt (K : PySem.W.Frag) (a : Addr) : It :=
  ⟨fun i H => ∃ xs x, SqT K H a xs ∧ xs[i]? = some x, fun i H x H' => H' = H ∧ ∀ xs, SqT K H a xs → xs[i]? = some x, fun i H => ∃ xs, SqT K H a xs ∧ xs.length ≤ i⟩
noncomputable def Itr (lo : Int) (n : Nat) : It := ⟨fun i _ => i < n, fun i H x H' => H' = H ∧ x = .int (lo + i), fun i _ => n ≤ i⟩
theorem turn_list {P : Program} {w : World} {K : PySem.W.Frag} {tg : Expr} (a it : Addr) : Turn P w K tg (Itl K a) [it] it (fun i h => h.IsListIter it a i) where
  mem := by simp
  obj := fun i h st b hb => by
    have e : b = it := by simpa using hb
    subst e
    obtain ⟨o, e, c, d⟩ := st
    exact ⟨o, e, fun v z => by rw [d] at z; cases z⟩
  keep := fun i h h' st k => st.at fun o e => k it (by simp) o e
  item := by
    intro X hP hw hK hc i pins s σ H E I hf st hg
    subst hP hw hK
    obtain ⟨xs, x, hq, hx⟩ := hg
    obtain ⟨its, rv, p, hz⟩ := I.list hq
    obtain ⟨u, hu, ru⟩ := rv.get hx
    obtain ⟨f0, f1, f2, f3, f4, f5⟩ := hf it (by simp)
    refine wpAny_pyNext_list_item st p.isList (x := u) (by simpa using hu) fun h' st' sb => ?_
    have I1 : Inv X pins σ H { s with heap := h' } := I.turned (t' := s.toks) (fun b o hb e => (sb.2 b hb).trans e) f0 f1 f3 f4 f5
    obtain ⟨o, e, c, d⟩ := id st'
    exact ⟨u, rfl, go_of (s := { s with heap := h' }) e c d (by decide) ⟨x, H, I1, ru, ⟨rfl, fun ys hy => by rw [I.list_inj hy hq]; exact hx⟩, st', fun b hb => (hf b hb).1⟩⟩
  done := by
    intro X hP hw hK hc i pins s σ H E I hf st hg
    subst hP hw hK
    obtain ⟨xs, hq, hx⟩ := hg
    obtain ⟨its, rv, p, hz⟩ := I.list hq
    obtain ⟨f0, f1, f2, f3, f4, f5⟩ := hf it (by simp)
    have hl := rv.length
    exact wpAny_pyNext_list_end (I.ok.hd hc) st p.isList (by simp; omega) fun h' eb => ⟨rfl, I.turned (t' := s.toks) (fun b o hb e => eb b o hb e) f0 f1 f3 f4 f5⟩
  self := fun _ _ _ _ _ st h => wpAny_pyIter_listiter st h
theorem turn_tuple {P : Program} {w : World} {K : PySem.W.Frag} {tg : Expr} (a it : Addr) : Turn P w K tg (Itt K a) [it] it (fun i h => h.IsTupleIter it a i) where
  mem := by simp
  obj := fun i h st b hb => by
    have e : b = it := by simpa using hb
    subst e
    obtain ⟨o, e, c, d⟩ := st
    exact ⟨o, e, fun v z => by rw [d] at z; cases z⟩
  keep := fun i h h' st k => st.at fun o e => k it (by simp) o e
  item := by
    intro X hP hw hK hc i pins s σ H E I hf st hg
    subst hP hw hK
    obtain ⟨xs, x, hq, hx⟩ := hg
    obtain ⟨its, rv, p, hz⟩ := I.tuple hq
    obtain ⟨u, hu, ru⟩ := rv.get hx
    obtain ⟨f0, f1, f2, f3, f4, f5⟩ := hf it (by simp)
    refine wpAny_pyNext_tuple_item st (show s.heap.IsTuple a its.toArray from p) (x := u) (by simpa using hu) fun h' st' sb => ?_
    have I1 : Inv X pins σ H { s with heap := h' } := I.turned (t' := s.toks) (fun b o hb e => (sb.2 b hb).trans e) f0 f1 f3 f4 f5
    obtain ⟨o, e, c, d⟩ := id st'
    exact ⟨u, rfl, go_of (s := { s with heap := h' }) e c d (by decide) ⟨x, H, I1, ru, ⟨rfl, fun ys hy => by rw [I.tuple_inj hy hq]; exact hx⟩, st', fun b hb => (hf b hb).1⟩⟩
  done := by
    intro X hP hw hK hc i pins s σ H E I hf st hg
    subst hP hw hK
    obtain ⟨xs, hq, hx⟩ := hg
    obtain ⟨its, rv, p, hz⟩ := I.tuple hq
    obtain ⟨f0, f1, f2, f3, f4, f5⟩ := hf it (by simp)
    have hl := rv.length
    exact wpAny_pyNext_tuple_end (I.ok.hd hc) st (show s.heap.IsTuple a its.toArray from p) (by simp; omega) fun h' eb => ⟨rfl, I.turned (t' := s.toks) (fun b o hb e => eb b o hb e) f0 f1 f3 f4 f5⟩
  self := fun _ _ _ _ _ st h => wpAny_pyIter_tupleiter st h
theorem turn_range {P : Program} {w : World} {K : PySem.W.Frag} {tg : Expr} (it : Addr) (lo : Int) (n : Nat) : Turn P w K tg (Itr lo n) [it] it (fun i h => IsRangeIter h it (lo + (i : Nat) * 1) ((n : Int) - (i : Nat)) 1) where
  mem := by simp
  obj := fun i h st b hb => by
    have e : b = it := by simpa using hb
    subst e
    exact ⟨_, st, fun v z => by
      have z' : Data.fields _ = Data.cell v := z
      cases z'⟩
  keep := fun i h h' st k => k it (by simp) _ st
  item := by
    intro X hP hw hK hc i pins s σ H E I hf st hg
    subst hP hw hK
    obtain ⟨f0, f1, f2, f3, f4, f5⟩ := hf it (by simp)
    have W := Walks.range (prog := X.prog) (w := X.w) (I.ok.hd hc) it lo 1 n
    refine W.item i s _ _ hg st fun v h' tk hv st' kk => ?_
    obtain ⟨t, rfl⟩ := hv
    have I1 : Inv X pins σ H { s with heap := h', toks := tk } := I.turned (fun b o hb e => kk b o (by simpa using hb) e) f0 f1 f3 f4 f5
    refine ⟨_, rfl, go_of (s := { s with heap := h', toks := tk }) (n := "range_iterator") st' rfl rfl (by decide) ⟨.int (lo + i), H, I1, ⟨t, ?_⟩, ⟨rfl, rfl⟩, st', fun b hb => (hf b hb).1⟩⟩
    rw [Int.mul_one]
  done := by
    intro X hP hw hK hc i pins s σ H E I hf st hg
    subst hP hw hK
    obtain ⟨f0, f1, f2, f3, f4, f5⟩ := hf it (by simp)
    exact wpAny_pyNext_range_end (I.ok.hd hc) st (by have : n ≤ i := hg; omega) fun h' eb => ⟨rfl, I.turned (t' := s.toks) (fun b o hb e => eb b o hb e) f0 f1 f3 f4 f5⟩
  self := fun _ _ _ _ _ st h => wpAny_pyIter_rangeiter st h
end L2

namespace L2
open PySem PySem.Spec PyProof.Rows
section
variable {X : Cx} {tg : Expr}
noncomputable def iList (K : PySem.W.Frag) (tl : TE) : TI := fun σ H R => tl σ H fun x H1 => ∃ a, x = .ref a ∧ (∃ xs, SqL K H1 a xs) ∧ R (Itl K a) H1
noncomputable def iTup (K : PySem.W.Frag) (tl : TE) : TI := fun σ H R => tl σ H fun x H1 => ∃ a, x = .ref a ∧ (∃ xs, SqT K H1 a xs) ∧ R (Itt K a) H1
theorem pi_list {l : Expr} {tl : TE} (hl : PE X l tl) : PI X tg l (iList X.K tl) := by
  intro pins s σ H R I h
  refine thn (hl pins s σ H _ I h) fun v s1 zq34 => ?_
  obtain ⟨x, H1, I1, r1, q1⟩ := zq34
  obtain ⟨a, e, ⟨xs, hq⟩, q⟩ := q1
  subst e
  cases r1
  obtain ⟨its, rv, p, hz⟩ := I1.list hq
  refine wpAny_pyIter_list p.isList ?_
  refine ⟨s1.heap.objs.size, [s1.heap.objs.size], _, _, H1, rfl, I1.kept (t' := s1.toks) fun b o e => Heap.get?_push_of_some _ e, turn_list a _, ⟨_, Heap.get?_push_size _ rfl, rfl, rfl⟩, fun b hb => ?_, q⟩
  have e : b = s1.heap.objs.size := by simpa using hb
  subst e
  exact I1.fpOk (Nat.le_refl _) (I1.hok.fresh (Nat.le_refl _))
theorem pi_tup {l : Expr} {tl : TE} (hl : PE X l tl) : PI X tg l (iTup X.K tl) := by
  intro pins s σ H R I h
  refine thn (hl pins s σ H _ I h) fun v s1 zq35 => ?_
  obtain ⟨x, H1, I1, r1, q1⟩ := zq35
  obtain ⟨a, e, ⟨xs, hq⟩, q⟩ := q1
  subst e
  cases r1
  obtain ⟨its, rv, p, hz⟩ := I1.tuple hq
  refine wpAny_pyIter_tuple (show s1.heap.IsTuple a its.toArray from p) ?_
  refine ⟨s1.heap.objs.size, [s1.heap.objs.size], _, _, H1, rfl, I1.kept (t' := s1.toks) fun b o e => Heap.get?_push_of_some _ e, turn_tuple a _, ⟨_, Heap.get?_push_size _ rfl, rfl, rfl⟩, fun b hb => ?_, q⟩
  have e : b = s1.heap.objs.size := by simpa using hb
  subst e
  exact I1.fpOk (Nat.le_refl _) (I1.hok.fresh (Nat.le_refl _))
theorem range_it {pins : List (Addr × Obj)} {σ : St} {H : Hp} {s : Shared} {R : It → Hp → Prop} {E : Value → Shared → Prop} {lo hi : Int} {t u v : Tok} {tk : Nat} (I : Inv X pins σ H s) (h1 : -(2 ^ 62) ≤ lo) (h2 : lo < 2 ^ 62) (h3 : -(2 ^ 62) ≤ hi) (h4 : hi < 2 ^ 62)
    (q : R (Itr lo (hi - lo).toNat) H) : wpAny (model X.prog X.w) X.A (pyIter (.ref s.heap.objs.size)) (PIE X pins σ tg R) E { s with heap := s.heap.push { cls := .type "range", data := .fields #[.int lo t, .int hi u, .int 1 v] }, toks := tk } := by
  refine wpAny_pyIter_range (IsRange.new ..) (small_one h1 h2 h3 h4) ?_
  have I1 : Inv X pins σ H { s with heap := s.heap.push { cls := .type "range", data := .fields #[.int lo t, .int hi u, .int 1 v] }, toks := tk } := I.kept fun b o e => Heap.get?_push_of_some _ e
  refine ⟨(s.heap.push { cls := .type "range", data := .fields #[.int lo t, .int hi u, .int 1 v] }).objs.size, [(s.heap.push { cls := .type "range", data := .fields #[.int lo t, .int hi u, .int 1 v] }).objs.size], _, _, H, rfl,
    I1.kept (t' := tk) fun b o e => Heap.get?_push_of_some _ e, turn_range _ lo (hi - lo).toNat, ?_, fun b hb => ?_, q⟩
  · have e1 : lo + ((0 : Nat) : Int) * 1 = lo := by simp
    have e2 : (((hi - lo).toNat : Nat) : Int) - ((0 : Nat) : Int) = Builtin.Range.rangeSize lo hi 1 := by rw [rangeSize_one]; split <;> omega
    show IsRangeIter _ _ (lo + ((0 : Nat) : Int) * 1) ((((hi - lo).toNat : Nat) : Int) - ((0 : Nat) : Int)) 1
    rw [e1, e2]
    exact Heap.get?_push_size _ rfl
  · have e : b = (s.heap.push { cls := .type "range", data := .fields #[.int lo t, .int hi u, .int 1 v] }).objs.size := by simpa using hb
    subst e
    exact I1.fpOk (Nat.le_refl _) (I1.hok.fresh (Nat.le_refl _))
noncomputable def iRng1 (ta : TA) : TI := fun σ H R => ta σ H fun vs H1 => ∃ j : Int, vs = [.int j] ∧ -(2 ^ 62) ≤ j ∧ j < 2 ^ 62 ∧ R (Itr 0 j.toNat) H1
theorem pi_range1 {a : Expr} {ta : TA} {p pos : Pos} (hg : Gl X "range") (hm : X.mg "range" = none) (ha : PA X [a] ta) (hs : starEach [a] X.env = [(false, eval a X.env)] := by rfl) : PI X tg (.Call (.Name "range" p) [a] [] pos) (iRng1 ta) := by
  intro pins s σ H R I h
  refine Call_ (ld_blt I hg hm boot_range (PyProof.Rows.callWith_type1 (thn (ha pos pins s σ H _ I h) fun us s1 zq36 => ?_) hs rfl))
  obtain ⟨vs, H1, I1, r1, q1⟩ := zq36
  obtain ⟨j, e, q1, q2, q⟩ := q1
  subst e
  cases r1 with
  | cons r rr =>
    cases rr
    obtain ⟨t, rfl⟩ := r
    exact call_range_1 (range_it I1 (by omega) (by omega) q1 q2 (by simpa using q))

noncomputable def tFor (wi : TI) (g : TG) (tb : TS) : TS := fun D σ H => wi σ H fun J H1 => ∃ W : Nat → Nat → St → Hp → Prop, (∃ m, W 0 m σ H1) ∧ ∀ i m σ H, W i m σ H →
  (J.stop i H ∧ D.nx σ H) ∨ (J.go i H ∧ ∃ N : St → Hp → Prop, (∀ σ' H', N σ' H' → ∃ m', m' < m ∧ W (i + 1) m' σ' H') ∧ ∀ x H', J.yld i H x H' → g x σ H' fun σ2 H2 => tb { D with nx := N, ct := N, bk := D.nx } σ2 H2)
noncomputable def pinsAt (fp : List Addr) (h : Heap) : List (Addr × Obj) := fp.filterMap fun b => (h.get? b).map fun o => (b, o)
theorem mem_pinsAt {fp : List Addr} {h : Heap} {b : Addr} {o : Obj} (hb : b ∈ fp) (e : h.get? b = some o) : (b, o) ∈ pinsAt fp h := List.mem_filterMap.mpr ⟨b, hb, by rw [e]; rfl⟩
theorem of_pinsAt {fp : List Addr} {h : Heap} {p : Addr × Obj} (hp : p ∈ pinsAt fp h) : p.1 ∈ fp ∧ h.get? p.1 = some p.2 := by
  obtain ⟨b, hb, e⟩ := List.mem_filterMap.mp hp
  cases q : h.get? b with
  | none => rw [q] at e; cases e
  | some o =>
    rw [q] at e
    have e' : (b, o) = p := Option.some.inj e
    subst e'
    exact ⟨hb, q⟩
theorem Inv.pinned {pins : List (Addr × Obj)} {σ : St} {H : Hp} {s : Shared} {fp : List Addr} (I : Inv X pins σ H s) (hf : ∀ b ∈ fp, FpOk X pins H b) (ho : ∀ b ∈ fp, ∃ o, s.heap.get? b = some o ∧ ∀ v, o.data ≠ .cell v) : Inv X (pins ++ pinsAt fp s.heap) σ H s :=
  I.pins_of fun p hp => (List.mem_append.mp hp).elim (fun z => I.pin p (List.mem_append_right _ z)) fun z => by
    obtain ⟨hb, e⟩ := of_pinsAt z
    obtain ⟨f0, f1, f2, _⟩ := hf p.1 hb
    obtain ⟨o, e', d⟩ := ho p.1 hb
    rw [e] at e'; cases e'
    exact ⟨e, f0, f1, f2, d⟩
theorem Inv.unpinned {pins pl : List (Addr × Obj)} {σ : St} {H : Hp} {s : Shared} (I : Inv X (pins ++ pl) σ H s) : Inv X pins σ H s := I.pins_of fun p hp => I.pin p (List.mem_append_right _ (List.mem_append_left _ hp))
theorem ps_for {iter : Expr} {body : List Stmt} {wi : TI} {g : TG} {tb : TS} {pos : Pos} (hp : PassesOwn (model X.prog X.w) X.A X.env X.xe) (hc : X.calm = true) (hi : PI X tg iter wi) (hg : PG X tg g) (hb : PSs X body tb)
    (hs : ∀ x, foldedSetIterable iter X.env x = pure x := by intro _; rfl) : PS X (.For tg iter body [] pos) (tFor wi g tb) := by
  intro pins s σ H D I h
  refine wpAny_For (thn (hi pins s σ H _ I h) fun v s1 h1 => thn h1 fun itv s2 h2 => ?_) hs
  obtain ⟨it, fp, tn, J, H2, e, I2, T, st2, f2, W, ⟨m0, w0⟩, turn⟩ := h2
  subst e
  -- what stays true of the iterator's objects through the loop
  have stat : ∀ {H' : Hp}, (∀ b ∈ fp, H' b = none) → ∀ b ∈ fp, FpOk X pins H' b := fun hn b hb => ⟨hn b hb, (f2 b hb).2⟩
  refine codeAny_forLoop_any (fun n s' => ∃ i σ' H', Inv X pins σ' H' s' ∧ tn i s'.heap ∧ (∀ b ∈ fp, H' b = none) ∧ W i n σ' H') ?_ m0 ⟨0, σ, H2, I2, st2, fun b hb => (f2 b hb).1, w0⟩
  rintro n s3 ⟨i, σ3, H3, I3, st3, fr3, w3⟩
  rcases turn i n σ3 H3 w3 with ⟨stop, qn⟩ | ⟨go, N, hN, step⟩
  · refine wpAny_passesOwn hp (thn (T.done X rfl rfl rfl hc i pins s3 σ3 H3 X.xe I3 (stat fr3) st3 stop) fun r s4 zq38 => ?_)
    obtain ⟨hr, I4⟩ := zq38
    subst hr
    exact wpAny_execs_nil ⟨σ3, H3, I4, qn⟩
  · refine wpAny_passesOwn hp (thn (T.item X rfl rfl rfl hc i pins s3 σ3 H3 X.xe I3 (stat fr3) st3 go) fun r s4 zq39 => ?_)
    obtain ⟨u, hr, h4⟩ := zq39
    subst hr
    refine wpAny_passesOwn hp (thn h4 fun _ s5 zq40 => ?_)
    obtain ⟨x, H5, I5, r5, y5, st5, fr5⟩ := zq40
    have I5' := I5.pinned (stat fr5) (T.obj _ _ st5)
    refine wpAny_passesOwn hp (thn (hg _ s5 σ3 H5 x u _ I5' r5 (step x H5 y5)) fun _ s6 zq41 => ?_)
    obtain ⟨σ6, H6, I6, q6⟩ := zq41
    refine wpAny_passesOwn hp (thn (hb _ s6 σ6 H6 _ I6 q6) fun f s7 q7 => ?_)
    have again : ∀ {σ7 : St} {H7 : Hp}, Inv X (pins ++ pinsAt fp s5.heap) σ7 H7 s7 → N σ7 H7 → ∃ m, m < n ∧ ∃ i σ' H', Inv X pins σ' H' s7 ∧ tn i s7.heap ∧ (∀ b ∈ fp, H' b = none) ∧ W i m σ' H' := fun {σ7 H7} I7 n7 => by
      obtain ⟨m', hm, w7⟩ := hN σ7 H7 n7
      refine ⟨m', hm, i + 1, σ7, H7, I7.unpinned, T.keep _ _ _ st5 fun b hb o e => (I7.pin (b, o) (List.mem_append_right _ (List.mem_append_right _ (mem_pinsAt hb e)))).1, fun b hb => ?_, w7⟩
      obtain ⟨o, e, d⟩ := T.obj _ _ st5 b hb
      exact (I7.pin (b, o) (List.mem_append_right _ (List.mem_append_right _ (mem_pinsAt hb e)))).2.1
    cases f with
    | next => obtain ⟨σ7, H7, I7, n7⟩ := q7; exact again I7 n7
    | cont => obtain ⟨σ7, H7, I7, n7⟩ := q7; exact again I7 n7
    | brk => obtain ⟨σ7, H7, I7, q7⟩ := q7; exact ⟨σ7, H7, I7.unpinned, q7⟩
    | ret v => obtain ⟨x7, σ7, H7, I7, r7, q7⟩ := q7; exact ⟨x7, σ7, H7, I7.unpinned, r7, q7⟩
end

theorem for_list {K : PySem.W.Frag} {a : Addr} {xs : List V} {g : TG} {tb : TS} {D : Ends} {σ : St} {H : Hp} (Pv : Nat → St → Hp → Prop) (h0 : Pv 0 σ H) (hl : ∀ i σ H, i ≤ xs.length → Pv i σ H → SqL K H a xs)
    (hs : ∀ i x σ H, xs[i]? = some x → Pv i σ H → g x σ H fun σ2 H2 => tb { D with nx := Pv (i + 1), ct := Pv (i + 1), bk := D.nx } σ2 H2) (hd : ∀ σ H, Pv xs.length σ H → D.nx σ H) :
    ∃ W : Nat → Nat → St → Hp → Prop, (∃ m, W 0 m σ H) ∧ ∀ i m σ H, W i m σ H →
      ((Itl K a).stop i H ∧ D.nx σ H) ∨ ((Itl K a).go i H ∧ ∃ N : St → Hp → Prop, (∀ σ' H', N σ' H' → ∃ m', m' < m ∧ W (i + 1) m' σ' H') ∧ ∀ x H', (Itl K a).yld i H x H' → g x σ H' fun σ2 H2 => tb { D with nx := N, ct := N, bk := D.nx } σ2 H2) := by
  refine ⟨fun i m σ H => m = xs.length - i ∧ i ≤ xs.length ∧ Pv i σ H, ⟨xs.length, by simp, Nat.zero_le _, h0⟩, ?_⟩
  rintro i m σ H ⟨rfl, hi, p⟩
  have q := hl i σ H hi p
  by_cases hlt : i < xs.length
  · refine .inr ⟨⟨xs, xs[i], q, by simp [hlt]⟩, Pv (i + 1), fun σ' H' p' => ⟨xs.length - (i + 1), by omega, rfl, hlt, p'⟩, fun x H' y => ?_⟩
    obtain ⟨e, y⟩ := y
    subst e
    exact hs i x σ _ (y xs q) p
  · have e : i = xs.length := by omega
    subst e
    exact .inl ⟨⟨xs, q, Nat.le_refl _⟩, hd σ H p⟩
theorem for_range {lo : Int} {n : Nat} {g : TG} {tb : TS} {D : Ends} {σ : St} {H : Hp} (Pv : Nat → St → Hp → Prop) (h0 : Pv 0 σ H)
    (hs : ∀ i σ H, i < n → Pv i σ H → g (.int (lo + i)) σ H fun σ2 H2 => tb { D with nx := Pv (i + 1), ct := Pv (i + 1), bk := D.nx } σ2 H2) (hd : ∀ σ H, Pv n σ H → D.nx σ H) :
    ∃ W : Nat → Nat → St → Hp → Prop, (∃ m, W 0 m σ H) ∧ ∀ i m σ H, W i m σ H →
      ((Itr lo n).stop i H ∧ D.nx σ H) ∨ ((Itr lo n).go i H ∧ ∃ N : St → Hp → Prop, (∀ σ' H', N σ' H' → ∃ m', m' < m ∧ W (i + 1) m' σ' H') ∧ ∀ x H', (Itr lo n).yld i H x H' → g x σ H' fun σ2 H2 => tb { D with nx := N, ct := N, bk := D.nx } σ2 H2) := by
  refine ⟨fun i m σ H => m = n - i ∧ i ≤ n ∧ Pv i σ H, ⟨n, by simp, Nat.zero_le _, h0⟩, ?_⟩
  rintro i m σ H ⟨rfl, hi, p⟩
  by_cases hlt : i < n
  · refine .inr ⟨hlt, Pv (i + 1), fun σ' H' p' => ⟨n - (i + 1), by omega, rfl, hlt, p'⟩, fun x H' y => ?_⟩
    obtain ⟨e, y⟩ := y
    subst e y
    exact hs i σ _ hlt p
  · have e : i = n := by omega
    subst e
    exact .inl ⟨Nat.le_refl _, hd σ H p⟩
end L2

namespace L2
open PySem PySem.Spec PyProof.Rows

noncomputable abbrev R2 := V → V → Hp → VK → Prop
noncomputable def OpR (X : Cx) (f : Value → Value → Sem Value) (r : R2) : Prop :=
  ∀ (pins : List (Addr × Obj)) (s : Shared) (σ : St) (H : Hp) (x y : V) (v u : Value) (Q : VK), Inv X pins σ H s → RelV x v → RelV y u → r x y H Q →
    wpAny (model X.prog X.w) X.A (f v u) (EP X pins σ Q) X.xe s
noncomputable def UnR (X : Cx) (f : Value → Sem Value) (r : V → Hp → VK → Prop) : Prop :=
  ∀ (pins : List (Addr × Obj)) (s : Shared) (σ : St) (H : Hp) (x : V) (v : Value) (Q : VK), Inv X pins σ H s → RelV x v → r x H Q →
    wpAny (model X.prog X.w) X.A (f v) (EP X pins σ Q) X.xe s
noncomputable def CallR (X : Cx) (f : Value) (r : List V → Hp → VK → Prop) : Prop :=
  ∀ (pins : List (Addr × Obj)) (s : Shared) (σ : St) (H : Hp) (xs : List V) (us : List Value) (Q : VK), Inv X pins σ H s → Vals xs us → r xs H Q →
    wpAny (model X.prog X.w) X.A (call f us) (EP X pins σ Q) X.xe s
noncomputable def TruR (X : Cx) (r : V → Hp → (Bool → Hp → Prop) → Prop) : Prop :=
  ∀ (pins : List (Addr × Obj)) (s : Shared) (σ : St) (H : Hp) (x : V) (v : Value) (Q : Bool → Hp → Prop), Inv X pins σ H s → RelV x v → r x H Q →
    wpAny (model X.prog X.w) X.A (truthy v) (TP X pins σ Q) X.xe s

noncomputable def tOp_k1 (r : R2) (Q : VK) (x : V) : V → Hp → Prop := fun y H2 => r x y H2 Q
noncomputable def tOp_k2 (r : R2) (tb : TE) (σ : St) (Q : VK) : V → Hp → Prop := fun x H1 => tb σ H1 (tOp_k1 r Q x)
noncomputable def tOp (r : R2) (ta tb : TE) : TE := fun σ H Q => ta σ H (tOp_k2 r tb σ Q)
noncomputable def tUn_k1 (r : V → Hp → VK → Prop) (Q : VK) : V → Hp → Prop := fun x H1 => r x H1 Q
noncomputable def tUn (r : V → Hp → VK → Prop) (ta : TE) : TE := fun σ H Q => ta σ H (tUn_k1 r Q)
inductive rI (C : Int → Int → Prop) (g : Int → Int → V) (x : V) (y : V) (H : Hp) (Q : VK) : Prop
  | mk : ∀ i j, (x = .int i) → (y = .int j) → (C i j) → (Q (g i j) H) → rI C g x y H Q
inductive rI0 (g : Int → Int → V) (x : V) (y : V) (H : Hp) (Q : VK) : Prop
  | mk : ∀ i j, (x = .int i) → (y = .int j) → (Q (g i j) H) → rI0 g x y H Q
inductive rU (g : Int → V) (x : V) (H : Hp) (Q : VK) : Prop
  | mk : ∀ i, (x = .int i) → (Q (g i) H) → rU g x H Q

section
variable {X : Cx} {a b c : Expr} {ta tb tc : TE} {pos : Pos}

theorem binT (ha : PE X a ta) (hb : PE X b tb) {pins : List (Addr × Obj)} {s : Shared} {σ : St} {H : Hp} {R : V → V → Hp → Prop} (I : Inv X pins σ H s)
    (h : ta σ H fun x H1 => tb σ H1 fun y H2 => R x y H2) {Q : Value → Shared → Prop} {f : Value → Value → Sem Value}
    (hf : ∀ v u s2 x y H2, Inv X pins σ H2 s2 → RelV x v → RelV y u → R x y H2 → wpAny (model X.prog X.w) X.A (f v u) Q X.xe s2) :
    wpAny (model X.prog X.w) X.A (eval a X.env) (fun v s₁ => wpAny (model X.prog X.w) X.A (eval b X.env) (fun u s₂ => wpAny (model X.prog X.w) X.A (f v u) Q X.xe s₂) X.xe s₁) X.xe s := by
  refine thn (ha pins s σ H _ I h) fun v s1 zq42 => ?_
  obtain ⟨x, H1, I1, r1, q1⟩ := zq42
  refine thn (hb pins s1 σ H1 _ I1 q1) fun u s2 zq43 => ?_
  obtain ⟨y, H2, I2, r2, q2⟩ := zq43
  exact hf v u s2 x y H2 I2 r1 r2 q2

theorem pe_op {op : Operator} {r : R2} (ho : OpR X (binaryOp op) r) (ha : PE X a ta) (hb : PE X b tb) : PE X (.BinOp a op b pos) (tOp r ta tb) := by
  intro pins s σ H Q I h
  exact wpAny_BinOp (binT ha hb I h fun v u s2 x y H2 I2 rx ry q => ho pins s2 σ H2 x y v u Q I2 rx ry q)
theorem pe_un {op : UnaryOp} {r : V → Hp → VK → Prop} (ho : UnR X (unaryOp op) r) (ha : PE X a ta) : PE X (.UnaryOp op a pos) (tUn r ta) := by
  intro pins s σ H Q I h
  exact UnaryOp_ (thn (ha pins s σ H _ I h) fun v s1 zq44 => (by obtain ⟨x, H1, I1, r1, q1⟩ := zq44; exact ho pins s1 σ H1 x v Q I1 r1 q1))

theorem opI {f : Value → Value → Sem Value} {C : Int → Int → Prop} {g : Int → Int → Int}
    (rule : ∀ (i j : Int) (t u : Tok) (s : Shared) (Q : Value → Shared → Prop) (E : Value → Shared → Prop), C i j → Q (.int (g i j) s.toks) { s with toks := s.toks + 1 } → wpAny (model X.prog X.w) X.A (f (.int i t) (.int j u)) Q E s) :
    OpR X f (rI C fun i j => .int (g i j)) := by
  intro pins s σ H x y v u Q I rx ry h
  obtain ⟨i, j, rfl, rfl, hc, q⟩ := h
  obtain ⟨t, rfl⟩ := rx
  obtain ⟨t', rfl⟩ := ry
  exact rule i j t t' s _ _ hc ⟨.int (g i j), H, I.tok _, ⟨_, rfl⟩, q⟩
theorem opI0 {f : Value → Value → Sem Value} {g : Int → Int → Int}
    (rule : ∀ (i j : Int) (t u : Tok) (s : Shared) (Q : Value → Shared → Prop) (E : Value → Shared → Prop), Q (.int (g i j) s.toks) { s with toks := s.toks + 1 } → wpAny (model X.prog X.w) X.A (f (.int i t) (.int j u)) Q E s) :
    OpR X f (rI0 fun i j => .int (g i j)) := by
  intro pins s σ H x y v u Q I rx ry h
  obtain ⟨i, j, rfl, rfl, q⟩ := h
  obtain ⟨t, rfl⟩ := rx
  obtain ⟨t', rfl⟩ := ry
  exact rule i j t t' s _ _ ⟨.int (g i j), H, I.tok _, ⟨_, rfl⟩, q⟩
theorem opB0 {f : Value → Value → Sem Value} {g : Int → Int → Bool}
    (rule : ∀ (i j : Int) (t u : Tok) (s : Shared) (Q : Value → Shared → Prop) (E : Value → Shared → Prop), Q (.bool (g i j)) s → wpAny (model X.prog X.w) X.A (f (.int i t) (.int j u)) Q E s) :
    OpR X f (rI0 fun i j => .bl (g i j)) := by
  intro pins s σ H x y v u Q I rx ry h
  obtain ⟨i, j, rfl, rfl, q⟩ := h
  obtain ⟨t, rfl⟩ := rx
  obtain ⟨t', rfl⟩ := ry
  exact rule i j t t' s _ _ ⟨.bl (g i j), H, I, rfl, q⟩

noncomputable def CDiv (i j : Int) : Prop := 0 < j ∧ j < 1073741824
noncomputable def CPow (i j : Int) : Prop := 0 ≤ j ∧ j ≤ 1000000 ∧ i.natAbs < 2 ^ 64
noncomputable def CMul (i j : Int) : Prop := (-(2 ^ 64) < i ∧ i < 2 ^ 64) ∨ (-(2 ^ 64) < j ∧ j < 2 ^ 64)
theorem CMul.ok {i j : Int} (h : CMul i j) : IntMulOk i j := by
  rcases h with ⟨h1, h2⟩ | ⟨h1, h2⟩
  · exact .of_left (intBits_le_64 h1 h2)
  · exact .of_right (intBits_le_64 h1 h2)

theorem op_add : OpR X (binaryOp .Add) (rI0 fun i j => .int (i + j)) := opI0 fun _ _ _ _ _ _ _ q => add_int q
theorem op_sub : OpR X (binaryOp .Sub) (rI0 fun i j => .int (i - j)) := opI0 fun _ _ _ _ _ _ _ q => sub_int q
theorem op_mul : OpR X (binaryOp .Mult) (rI CMul fun i j => .int (i * j)) := opI fun _ _ _ _ _ _ _ hc q => mul_int q hc.ok
theorem op_fdiv : OpR X (binaryOp .FloorDiv) (rI CDiv fun i j => .int (i / j)) := opI fun i j _ _ _ _ _ hc q => by
  have h1 : (0 : Int) < j := hc.1
  have h2 : j < 1073741824 := hc.2
  exact floordiv_int (by omega) (by rw [Int.fdiv_eq_ediv_of_nonneg i (by omega)]; exact q) (.inl (PyProof.noPylong_small (by omega)))
theorem op_mod : OpR X (binaryOp .Mod) (rI (fun _ j => 0 < j) fun i j => .int (i % j)) := opI fun i j _ _ _ _ _ hc q => by
  have h1 : (0 : Int) < j := hc
  exact mod_int' (by omega) (by rw [Int.fmod_eq_emod_of_nonneg i (by omega)]; exact q)
theorem op_pow : OpR X (binaryOp .Pow) (rI CPow fun i j => .int (i ^ j.toNat)) := opI fun _ _ _ _ _ _ _ hc q => pow_int_small hc.1 hc.2.1 hc.2.2 q


theorem unI {f : Value → Sem Value} {g : Int → Int}
    (rule : ∀ (i : Int) (t : Tok) (s : Shared) (Q : Value → Shared → Prop) (E : Value → Shared → Prop), Q (.int (g i) s.toks) { s with toks := s.toks + 1 } → wpAny (model X.prog X.w) X.A (f (.int i t)) Q E s) :
    UnR X f (rU fun i => .int (g i)) := by
  intro pins s σ H x v Q I rx h
  obtain ⟨i, rfl, q⟩ := h
  obtain ⟨t, rfl⟩ := rx
  exact rule i t s _ _ ⟨.int (g i), H, I.tok _, ⟨_, rfl⟩, q⟩
theorem un_neg : UnR X (unaryOp .USub) (rU fun i => .int (-i)) := unI fun _ _ _ _ _ q => neg_int q

end

noncomputable def scal : V → V → Bool
  | .non, .non => true | .non, .int _ => true | .int _, .non => true | .non, .bl _ => true | .bl _, .non => true | .non, .str _ => true | .str _, .non => true
  | .int _, .int _ => true | .bl _, .bl _ => true | .str _, .str _ => true | .byt _, .byt _ => true
  | .int _, .str _ => true | .str _, .int _ => true | .bl _, .str _ => true | .str _, .bl _ => true
  | _, _ => false
noncomputable def rEq : R2 := fun x y H Q => scal x y = true ∧ Q (.bl (decide (x = y))) H
noncomputable def rNe : R2 := fun x y H Q => scal x y = true ∧ Q (.bl (!decide (x = y))) H

theorem dec_int {i j : Int} : decide (V.int i = V.int j) = (i == j) := by
  rw [Bool.eq_iff_iff]
  simp
theorem dec_bl {i j : Bool} : decide (V.bl i = V.bl j) = (i == j) := by
  rw [Bool.eq_iff_iff]
  simp
theorem dec_str {i j : Str} : decide (V.str i = V.str j) = (i == j) := by
  rw [Bool.eq_iff_iff]
  simp
theorem dec_byt {i j : Array UInt8} : decide (V.byt i = V.byt j) = (i.toList == j.toList) := by
  rw [Bool.eq_iff_iff]
  cases i
  cases j
  simp

section
variable {X : Cx} {a b c : Expr} {ta tb tc : TE} {pos : Pos}
theorem fin_bl {pins : List (Addr × Obj)} {σ : St} {H : Hp} {s : Shared} {Q : VK} {k k' : Bool} (I : Inv X pins σ H s) (q : Q (.bl k) H) (e : k = k') : EP X pins σ Q (.bool k') s := by
  subst e
  exact ⟨.bl k, H, I, rfl, q⟩
theorem op_eq : OpR X (compareOp .Eq) rEq := by
  intro pins s σ H x y v u Q I rx ry h
  obtain ⟨hs, q⟩ := h
  cases x with
  | non =>
    cases rx
    cases y with
    | non => cases ry; exact PySem.EqNone.eq_none_none (fin_bl I q (by simp))
    | bl j => cases ry; exact PySem.EqNone.eq_none_bool (fin_bl I q (by simp))
    | int j => obtain ⟨t', rfl⟩ := ry; exact PySem.EqNone.eq_none_int (fin_bl I q (by simp))
    | str j => obtain ⟨t', rfl⟩ := ry; exact PySem.EqNone.eq_none_str (fin_bl I q (by simp))
    | _ => exact absurd (show false = true from hs) Bool.false_ne_true
  | bl i =>
    cases rx
    cases y with
    | non => cases ry; exact PySem.EqNone.eq_bool_none (fin_bl I q (by simp))
    | bl j => cases ry; exact eq_bool (fin_bl I q dec_bl)
    | str j => obtain ⟨t', rfl⟩ := ry; exact PySem.EqMixed.eq_bool_str (fin_bl I q (by simp))
    | _ => exact absurd (show false = true from hs) Bool.false_ne_true
  | int i =>
    obtain ⟨t, rfl⟩ := rx
    cases y with
    | non => cases ry; exact PySem.EqNone.eq_int_none (fin_bl I q (by simp))
    | int j => obtain ⟨t', rfl⟩ := ry; exact eq_int (fin_bl I q dec_int)
    | str j => obtain ⟨t', rfl⟩ := ry; exact PySem.EqMixed.eq_int_str (fin_bl I q (by simp))
    | _ => exact absurd (show false = true from hs) Bool.false_ne_true
  | str i =>
    obtain ⟨t, rfl⟩ := rx
    cases y with
    | non => cases ry; exact PySem.EqNone.eq_str_none (fin_bl I q (by simp))
    | bl j => cases ry; exact PySem.EqMixed.eq_str_bool (fin_bl I q (by simp))
    | int j => obtain ⟨t', rfl⟩ := ry; exact PySem.EqMixed.eq_str_int (fin_bl I q (by simp))
    | str j => obtain ⟨t', rfl⟩ := ry; exact eq_str (fin_bl I q dec_str)
    | _ => exact absurd (show false = true from hs) Bool.false_ne_true
  | byt i =>
    obtain ⟨t, rfl⟩ := rx
    cases y with
    | byt j => obtain ⟨t', rfl⟩ := ry; exact PySem.W.eq_bytes (fin_bl I q dec_byt)
    | _ => exact absurd (show false = true from hs) Bool.false_ne_true
  | _ => cases y <;> exact absurd (show false = true from hs) Bool.false_ne_true
theorem op_ne : OpR X (compareOp .NotEq) rNe := by
  intro pins s σ H x y v u Q I rx ry h
  obtain ⟨hs, q⟩ := h
  cases x with
  | non =>
    cases rx
    cases y with
    | non => cases ry; exact PySem.EqNone.ne_none_none (fin_bl I q (by simp))
    | bl j => cases ry; exact PySem.EqNone.ne_none_bool (fin_bl I q (by simp))
    | int j => obtain ⟨t', rfl⟩ := ry; exact PySem.EqNone.ne_none_int (fin_bl I q (by simp))
    | str j => obtain ⟨t', rfl⟩ := ry; exact PySem.EqNone.ne_none_str (fin_bl I q (by simp))
    | _ => exact absurd (show false = true from hs) Bool.false_ne_true
  | bl i =>
    cases rx
    cases y with
    | non => cases ry; exact PySem.EqNone.ne_bool_none (fin_bl I q (by simp))
    | bl j => cases ry; exact ne_bool (fin_bl I q (congrArg not dec_bl))
    | str j => obtain ⟨t', rfl⟩ := ry; exact PySem.EqMixed.ne_bool_str (fin_bl I q (by simp))
    | _ => exact absurd (show false = true from hs) Bool.false_ne_true
  | int i =>
    obtain ⟨t, rfl⟩ := rx
    cases y with
    | non => cases ry; exact PySem.EqNone.ne_int_none (fin_bl I q (by simp))
    | int j => obtain ⟨t', rfl⟩ := ry; exact ne_int (fin_bl I q (congrArg not dec_int))
    | str j => obtain ⟨t', rfl⟩ := ry; exact PySem.EqMixed.ne_int_str (fin_bl I q (by simp))
    | _ => exact absurd (show false = true from hs) Bool.false_ne_true
  | str i =>
    obtain ⟨t, rfl⟩ := rx
    cases y with
    | non => cases ry; exact PySem.EqNone.ne_str_none (fin_bl I q (by simp))
    | bl j => cases ry; exact PySem.EqMixed.ne_str_bool (fin_bl I q (by simp))
    | int j => obtain ⟨t', rfl⟩ := ry; exact PySem.EqMixed.ne_str_int (fin_bl I q (by simp))
    | str j => obtain ⟨t', rfl⟩ := ry; exact ne_str (fin_bl I q (congrArg not dec_str))
    | _ => exact absurd (show false = true from hs) Bool.false_ne_true
  | byt i =>
    obtain ⟨t, rfl⟩ := rx
    cases y with
    | byt j => obtain ⟨t', rfl⟩ := ry; exact PySem.W.ne_bytes (fin_bl I q (congrArg not dec_byt))
    | _ => exact absurd (show false = true from hs) Bool.false_ne_true
  | _ => cases y <;> exact absurd (show false = true from hs) Bool.false_ne_true

theorem op_lt : OpR X (compareOp .Lt) (rI0 fun i j => .bl (decide (i < j))) := opB0 fun _ _ _ _ _ _ _ q => lt_int q
theorem op_gt : OpR X (compareOp .Gt) (rI0 fun i j => .bl (decide (j < i))) := opB0 fun _ _ _ _ _ _ _ q => gt_int q
inductive op_in_str_r  (x : V) (y : V) (H : Hp) (Q : VK) : Prop
  | mk : ∀ i j, (x = .str i) → (y = .str j) → (Q (.bl (!(Builtin.Str.occurrences j i 0 j.length 1).isEmpty)) H) → op_in_str_r x y H Q
theorem op_in_str : OpR X (compareOp .In) op_in_str_r := by
  intro pins s σ H x y v u Q I rx ry h
  obtain ⟨i, j, rfl, rfl, q⟩ := h
  obtain ⟨t, rfl⟩ := rx
  obtain ⟨t', rfl⟩ := ry
  exact in_str (fin_bl I q rfl)




theorem nomark (b : Expr) {op : CmpOp} (h : op ≠ .In := by decide) (h2 : op ≠ .NotIn := by decide) : behindInMarks op b = false := by
  have e1 : (op == CmpOp.In) = false := by cases op <;> first | rfl | exact absurd rfl h
  have e2 : (op == CmpOp.NotIn) = false := by cases op <;> first | rfl | exact absurd rfl h2
  cases b <;> simp [behindInMarks, e1, e2]
theorem pe_cmpR {op : CmpOp} {r : R2} (ho : OpR X (compareOp op) r) (ha : PE X a ta) (hb : PE X b tb) (hm : behindInMarks op b = false) : PE X (.Compare a [op] [b] pos) (tOp r ta tb) := by
  intro pins s σ H Q I h
  exact wpAny_Compare1 (binT ha hb I h fun v u s2 x y H2 I2 rx ry q => ho pins s2 σ H2 x y v u Q I2 rx ry q) hm
noncomputable def tTest_k1 (Q : (Bool → Hp → Prop)) : V → Hp → Prop := fun x H' => IsB x H' Q
noncomputable def tTest (t : TE) : TT := fun σ H Q => t σ H (tTest_k1 Q)
theorem pt_cmpR {op : CmpOp} {r : R2} (ho : OpR X (compareOp op) r) (ha : PE X a ta) (hb : PE X b tb) (hm : behindInMarks op b = false) : PT X (.Compare a [op] [b] pos) (tTest (tOp r ta tb)) := by
  intro pins s σ H Q I h
  refine wpAny_isTrue_Compare1 (thn (ha pins s σ H _ I h) fun v s1 ⟨x, H1, I1, r1, q1⟩ => thn (hb pins s1 σ H1 _ I1 q1) fun u s2 ⟨y, H2, I2, r2, q2⟩ =>
    thn (ho pins s2 σ H2 x y v u _ I2 r1 r2 q2) fun c s3 ⟨z, H3, I3, r3, k, e, q3⟩ => ?_) hm
  subst e
  cases r3
  exact wpAny_truthy_bool ⟨H3, I3, q3⟩

noncomputable def TruV (K : PySem.W.Frag) (x : V) (H : Hp) (k : Bool) : Prop :=
  match x with
  | .non => k = false
  | .bl b => k = b
  | .int i => k = (i != 0)
  | .str y => y.length ≤ sizeLine ∧ k = ((y.length : Int) != 0)
  | .byt y => y.size ≤ sizeLine ∧ k = ((y.size : Int) != 0)
  | .ref p => (∃ xs, SqL K H p xs ∧ k = !xs.isEmpty) ∨ (∃ xs, SqT K H p xs ∧ k = !xs.isEmpty) ∨ ∃ kvs, H p = some (.dK kvs) ∧ k = !kvs.isEmpty
  | _ => False
theorem isEmpty_kv {κ : Type} {kvs : List (κ × V)} {vs : List (κ × Value)} (r : KV kvs vs) : (!vs.isEmpty) = !kvs.isEmpty := by
  cases r <;> rfl
theorem isEmpty_of {xs : List V} {its : List Value} (r : Vals xs its) : (!its.toArray.isEmpty) = !xs.isEmpty := by
  cases r <;> simp
theorem line63 : (sizeLine : Nat) < 2 ^ 63 := by rw [sizeLine_eq]; decide
inductive tru_r (K : PySem.W.Frag) (x : V) (H : Hp) (Q : Bool → Hp → Prop) : Prop
  | mk : ∀ k, (TruV K x H k) → (Q k H) → tru_r K x H Q
theorem tru_ok : TruR X (tru_r X.K) := by
  intro pins s σ H x v Q I rx h
  obtain ⟨k, e, q⟩ := h
  have hl := line63
  have hs : sizeLine = 16777216 := sizeLine_eq
  cases x with
  | non =>
    cases rx
    have e' : k = false := e
    subst e'
    exact truthy_none ⟨H, I, q⟩
  | bl b =>
    cases rx
    have e' : k = b := e
    subst e'
    exact wpAny_truthy_bool ⟨H, I, q⟩
  | int i =>
    obtain ⟨t, rfl⟩ := rx
    have e' : k = (i != 0) := e
    subst e'
    exact PySem.P.truthy_int ⟨H, I, q⟩
  | str y =>
    obtain ⟨t, rfl⟩ := rx
    obtain ⟨hy, e'⟩ : y.length ≤ sizeLine ∧ k = ((y.length : Int) != 0) := e
    subst e'
    exact PySem.P.truthy_str (by omega) ⟨H, I.tok _, q⟩
  | byt y =>
    obtain ⟨t, rfl⟩ := rx
    obtain ⟨hy, e'⟩ : y.size ≤ sizeLine ∧ k = ((y.size : Int) != 0) := e
    subst e'
    exact PySem.W.truthy_bytes (by omega) ⟨H, I.tok _, q⟩
  | ref p =>
    cases rx
    have e' : (∃ xs, SqL X.K H p xs ∧ k = !xs.isEmpty) ∨ (∃ xs, SqT X.K H p xs ∧ k = !xs.isEmpty) ∨ ∃ kvs, H p = some (.dK kvs) ∧ k = !kvs.isEmpty := e
    rcases e' with ⟨xs, hx, e'⟩ | ⟨xs, hx, e'⟩ | ⟨kvs, hx, e'⟩
    · subst e'
      obtain ⟨its, r, pl, hz⟩ := I.list hx
      have hlen := r.length
      exact wpAny_truthy_list pl.isList (by simp only [List.size_toArray]; omega) ⟨H, I.tok _, by rw [isEmpty_of r]; exact q⟩
    · subst e'
      obtain ⟨its, r, pl, hz⟩ := I.tuple hx
      have hlen := r.length
      exact truthy_tuple pl (by simp only [List.size_toArray]; omega) ⟨H, I.tok _, by rw [isEmpty_of r]; exact q⟩
    · subst e'
      obtain ⟨hz, hS, vs, r, m⟩ : kvs.length ≤ sizeLine ∧ (p == sysModules) = false ∧ ∃ vs, KV kvs vs ∧ s.heap.DictOf (mixKind X.prog X.w) p vs := I.hok p _ hx
      have hlen : kvs.length = vs.length := Paired.length r
      exact wpAny_truthy_dict hS m (by omega) ⟨H, I.tok _, by rw [isEmpty_kv r]; exact q⟩
  | _ => exact (show False from e).elim
noncomputable def tTru_k1 (K : PySem.W.Frag) (Q : (Bool → Hp → Prop)) : V → Hp → Prop := fun x H' => tru_r K x H' Q
noncomputable def tTru (K : PySem.W.Frag) (ta : TE) : TT := fun σ H Q => ta σ H (tTru_k1 K Q)
theorem pt_truth (ha : PE X a ta) (he : ∀ whole, isTrue a X.env whole = (do let v ← whole; standAt a.pos; holding [v] (truthy v))) :
    PT X a (tTru X.K ta) := by
  intro pins s σ H Q I h
  exact isTrue_plain (thn (ha pins s σ H _ I h) fun v s1 zq47 => (by obtain ⟨x, H1, I1, r1, q1⟩ := zq47; exact tru_ok pins s1 σ H1 x v Q I1 r1 q1)) (he _)

inductive op_add_str_r  (x : V) (y : V) (H : Hp) (Q : VK) : Prop
  | mk : ∀ i j, (x = .str i) → (y = .str j) → (i.length + j.length ≤ sizeLine) → (Q (.str (i ++ j)) H) → op_add_str_r x y H Q
theorem op_add_str : OpR X (binaryOp .Add) op_add_str_r := by
  intro pins s σ H x y v u Q I rx ry h
  obtain ⟨i, j, rfl, rfl, hz, q⟩ := h
  obtain ⟨t, rfl⟩ := rx
  obtain ⟨t', rfl⟩ := ry
  exact add_str (fun t' tk => ⟨.str (i ++ j), H, I.tok _, ⟨_, rfl⟩, q⟩) hz


theorem vals1 {x : V} {us : List Value} (r : Vals [x] us) : ∃ u, us = [u] ∧ RelV x u := by
  cases r with
  | cons r1 r2 => cases r2; exact ⟨_, rfl, r1⟩
theorem vals2 {x y : V} {us : List Value} (r : Vals [x, y] us) : ∃ u w', us = [u, w'] ∧ RelV x u ∧ RelV y w' := by
  cases r with
  | cons r1 r2 =>
    cases r2 with
    | cons r3 r4 => cases r4; exact ⟨_, _, rfl, r1, r3⟩
inductive call_max2_r  (xs : List V) (H : Hp) (Q : VK) : Prop
  | mk : ∀ i j, (xs = [.int i, .int j]) → (Q (.int (if j > i then j else i)) H) → call_max2_r xs H Q
theorem call_max2 (hc : X.calm = true) : CallR X (.builtin "max") call_max2_r := by
  intro pins s σ H xs us Q I r h
  obtain ⟨i, j, rfl, q⟩ := h
  obtain ⟨u, w', rfl, ⟨t, rfl⟩, ⟨t', rfl⟩⟩ := vals2 r
  refine max_two_ints (I.ok.hd hc) fun h' tk k => ⟨_, H, I.kept k, ?_, q⟩
  by_cases hj : j > i
  · rw [if_pos hj, if_pos hj]; exact ⟨_, rfl⟩
  · rw [if_neg hj, if_neg hj]; exact ⟨_, rfl⟩
inductive call_min2_r  (xs : List V) (H : Hp) (Q : VK) : Prop
  | mk : ∀ i j, (xs = [.int i, .int j]) → (Q (.int (if j < i then j else i)) H) → call_min2_r xs H Q
theorem call_min2 (hc : X.calm = true) : CallR X (.builtin "min") call_min2_r := by
  intro pins s σ H xs us Q I r h
  obtain ⟨i, j, rfl, q⟩ := h
  obtain ⟨u, w', rfl, ⟨t, rfl⟩, ⟨t', rfl⟩⟩ := vals2 r
  refine min_two_ints (I.ok.hd hc) fun h' tk k => ⟨_, H, I.kept k, ?_, q⟩
  by_cases hj : j < i
  · rw [if_pos hj, if_pos hj]; exact ⟨_, rfl⟩
  · rw [if_neg hj, if_neg hj]; exact ⟨_, rfl⟩
theorem call_int1 : CallR X (.type "int") (fun xs H Q => (∃ i, xs = [.int i] ∧ Q (.int i) H) ∨ ∃ k, xs = [.bl k] ∧ Q (.int (if k then 1 else 0)) H) := by
  intro pins s σ H xs us Q I r h
  rcases h with ⟨i, rfl, q⟩ | ⟨k, rfl, q⟩
  · obtain ⟨u, rfl, t, rfl⟩ := vals1 r
    exact call_int_int ⟨.int i, H, I, ⟨_, rfl⟩, q⟩
  · obtain ⟨u, rfl, r1⟩ := vals1 r
    cases r1
    exact call_int_bool ⟨.int (if k then 1 else 0), H, I.tok _, ⟨_, rfl⟩, q⟩
inductive call_str_int_r  (xs : List V) (H : Hp) (Q : VK) : Prop
  | mk : ∀ i, (xs = [.int i]) → (i.natAbs.log2 < 1920) → (Q (.str (toString i)) H) → call_str_int_r xs H Q
theorem call_str_int : CallR X (.type "str") call_str_int_r := by
  intro pins s σ H xs us Q I r h
  obtain ⟨i, rfl, hz, q⟩ := h
  obtain ⟨u, rfl, t, rfl⟩ := vals1 r
  exact PySem.P.str_of_int hz ⟨.str _, H, I.tok _, ⟨_, rfl⟩, q⟩
end
end L2

namespace L2
open PySem PySem.Spec PyProof.Rows

structure ObjM (h : Heap) (x dx C : Addr) (mA : Str → Option Value) : Prop where
  obj : h.get? x = some (PySem.W.instObj C dx)
  ns : h.Ns1 dx mA
  ne : dx ≠ x

theorem lookIn_ns {h : Heap} {dx : Addr} {mA : Str → Option Value} (n : h.Ns1 dx mA) : ∃ od, h.get? dx = some od ∧ ∀ name, PySem.W.lookIn name od = some (mA name) := by
  obtain ⟨o, es, ep, ho, hd, hk, _, hm⟩ := n
  refine ⟨o, ho, fun name => ?_⟩
  have e := hm name
  unfold nsFind findBy at e
  rw [← Array.find?_toList] at e
  unfold PySem.W.lookIn
  rw [hd]
  dsimp only
  split
  · rename_i y q
    rw [q] at e
    exact congrArg some e
  · rename_i q
    rw [q] at e
    have a : es.toList.any (·.refKey) = false := by
      rw [List.any_eq_false]
      intro y hy
      obtain ⟨z, t, hkey⟩ := hk y (Array.mem_toList_iff.mp hy)
      simp [DictEntry.refKey, hkey]
    have a' : ¬ es.toList.any (·.refKey) = true := by rw [a]; exact Bool.false_ne_true
    rw [if_neg a']
    exact congrArg some e

theorem ObjM.look {h : Heap} {x dx C : Addr} {mA : Str → Option Value} (I : ObjM h x dx C mA) : ∃ od, PySem.W.InstAt h x (PySem.W.instObj C dx) C (some od) ∧ ∀ name, PySem.W.lookIn name od = some (mA name) :=
  let ⟨od, ho, hl⟩ := lookIn_ns I.ns
  ⟨od, ⟨I.obj, rfl, rfl, ho⟩, hl⟩

section
variable {prog : Program} {w : World} {A : Around} {E : Value → Shared → Prop} {s : Shared} {K : PySem.W.Frag} {x dx C f : Addr} {mA : Str → Option Value} {name : Str} {v : Value}





end

noncomputable def putF (f : Str) (v : V) : List (Str × V) → List (Str × V)
  | [] => [(f, v)]
  | (g, x) :: r => if g = f then (g, v) :: r else (g, x) :: putF f v r
theorem lookup_putF (f g : Str) (v : V) : ∀ fs : List (Str × V), (putF f v fs).lookup g = if g = f then some v else fs.lookup g
  | [] => by
    show List.lookup g [(f, v)] = _
    by_cases h : g = f
    · have hb : (g == f) = true := beq_iff_eq.mpr h
      simp only [List.lookup, hb, if_pos h]
    · have hb : (g == f) = false := beq_eq_false_iff_ne.mpr h
      simp only [List.lookup, hb, if_neg h]
  | (k, x) :: r => by
    have ih := lookup_putF f g v r
    rw [show putF f v ((k, x) :: r) = (if k = f then (k, v) :: r else (k, x) :: putF f v r) from rfl]
    by_cases hk : k = f
    · rw [if_pos hk]
      by_cases h : g = k
      · have hb : (g == k) = true := beq_iff_eq.mpr h
        simp only [List.lookup, hb, if_pos (h.trans hk)]
      · have hb : (g == k) = false := beq_eq_false_iff_ne.mpr h
        simp only [List.lookup, hb, if_neg (fun e : g = f => h (e.trans hk.symm))]
    · rw [if_neg hk]
      by_cases h : g = k
      · have hb : (g == k) = true := beq_iff_eq.mpr h
        simp only [List.lookup, hb, if_neg (fun e : g = f => hk (h.symm.trans e))]
      · have hb : (g == k) = false := beq_eq_false_iff_ne.mpr h
        simp only [List.lookup, hb]
        exact ih
theorem keys_putF (f : Str) (v : V) : ∀ fs : List (Str × V), f ∈ (putF f v fs).map (·.1) ∧ ∀ g, g ∈ fs.map (·.1) → g ∈ (putF f v fs).map (·.1)
  | [] => ⟨by simp [putF], fun g h => by simp at h⟩
  | (k, x) :: r => by
    obtain ⟨i1, i2⟩ := keys_putF f v r
    rw [show putF f v ((k, x) :: r) = (if k = f then (k, v) :: r else (k, x) :: putF f v r) from rfl]
    by_cases hk : k = f
    · rw [if_pos hk]
      subst hk
      exact ⟨by simp, fun g h => by simpa using h⟩
    · rw [if_neg hk]
      refine ⟨?_, fun g h => ?_⟩
      · rw [List.map_cons]
        exact List.mem_cons_of_mem _ i1
      · rw [List.map_cons] at h ⊢
        rcases List.mem_cons.mp h with e | e
        · exact List.mem_cons.mpr (.inl e)
        · exact List.mem_cons_of_mem _ (i2 g e)

theorem RelO.some_of {v : V} {o : Option Value} (r : RelO (some v) o) : ∃ u, o = some u ∧ RelV v u := by
  cases o with
  | none => exact (show False from r).elim
  | some u => exact ⟨u, rfl, r⟩
theorem handed_of {v : V} {u : Value} (r : RelV v u) : PySem.W.handedIn u = true := by
  cases v with
  | non => cases (show u = Value.none from r); rfl
  | bl b => cases (show u = Value.bool b from r); rfl
  | int i => obtain ⟨t, e⟩ := (show ∃ t, u = Value.int i t from r); cases e; rfl
  | str x => obtain ⟨t, e⟩ := (show ∃ t, u = Value.str x t from r); cases e; rfl
  | byt b => obtain ⟨t, e⟩ := (show ∃ t, u = Value.bytes b t from r); cases e; rfl
  | flt b => obtain ⟨t, e⟩ := (show ∃ t, u = Value.float b t from r); cases e; rfl
  | ref a => cases (show u = Value.ref a from r); rfl
  | ty n => cases (show u = Value.type n from r); rfl

section
variable {P : Program} {w : World} {H H' : Hp} {h h' : Heap} {a C dx : Addr} {fs fs' : List (Str × V)}
theorem ins_get (hok : HOk P w H h) (e : H a = some (.ins C dx fs)) : ∃ mA, ObjM h a dx C mA ∧ (∀ f, RelO (fs.lookup f) (mA f)) ∧ PySem.Within mA (fs.map (·.1)) ∧ fs.length ≤ 1000 ∧ H dx = some (.own a) := by
  obtain ⟨d, z, ne, ob, mA, n, r, q⟩ := (show ObjOk P w H h a (.ins C dx fs) from hok a _ e)
  exact ⟨mA, ⟨ob, n, ne⟩, r, q, z, d⟩
end

structure Cls (K : PySem.W.Frag) (C : Addr) : Prop where
  pg : PySem.W.plainGet K C Str.empty = true
  hd : PySem.W.hasDictIn K C = true
  po : PySem.W.plainOver K C = true
  sa : PySem.W.findIn K (.ref C) "__setattr__" = some (some (.builtin "object.__setattr__"))
theorem Cls.get {K : PySem.W.Frag} {C : Addr} (c : Cls K C) (f : Str) : PySem.W.plainGet K C f = true := c.pg

section
variable {X : Cx} {pins : List (Addr × Obj)} {σ : St} {H : Hp} {s : Shared} {a C dx : Addr} {fs : List (Str × V)} {f : Str} {v : V} {A : Around} {E : Value → Shared → Prop}






theorem attr_of {prog : Program} {w : World} {env : Env} {e : Expr} {f : Str} {pos : Pos} {s : Shared} {Q : Value → Shared → Prop} (hb : attributeBase e f env (eval e env) = eval e env)
    (h : wpAny (model prog w) A (eval e env) (fun o s₁ => wpAny (model prog w) A (getAttr o f true) Q E s₁) E s) : wpAny (model prog w) A (eval (.Attribute e f pos) env) Q E s :=
  Attribute_any_ h (by rw [arm_eval_Attribute, hb])
end


section
variable {X : Cx} {o e value : Expr} {f : Str} {pos pos' tpos : Pos} {ta tv : TE}

end

section
variable {X : Cx} {pins : List (Addr × Obj)} {σ : St} {H : Hp} {s : Shared} {A : Around} {E : Value → Shared → Prop} {Q : Value → Shared → Prop} {c : Value} {b : Bool}
inductive TyOf (K : PySem.W.Frag) (H : Hp) : V → Value → Prop where
  | non : TyOf K H .non (.type "NoneType")
  | bl (x : Bool) : TyOf K H (.bl x) (.type "bool")
  | int (i : Int) : TyOf K H (.int i) (.type "int")
  | str (x : Str) : TyOf K H (.str x) (.type "str")
  | flt (x : UInt64) : TyOf K H (.flt x) (.type "float")
  | lst {a : Addr} {xs : List V} (e : H a = some (.lst xs)) : TyOf K H (.ref a) (.type "list")
  | frz {a : Addr} {o : Obj} {xs : List V} (e : H a = some (.frz o (.lst xs))) : TyOf K H (.ref a) (.type "list")
  | tup {a : Addr} {xs : List V} (e : H a = some (.tup xs)) : TyOf K H (.ref a) (.type "tuple")
  | dK {a : Addr} {kvs : List (Key × V)} (e : H a = some (.dK kvs)) : TyOf K H (.ref a) (.type "dict")
  | dT {a : Addr} {kvs : List (List Key × V)} (e : H a = some (.dT kvs)) : TyOf K H (.ref a) (.type "dict")
  | ins {a C dx : Addr} {fs : List (Str × V)} (e : H a = some (.ins C dx fs)) (cl : Cls K C) (ha : PySem.W.findIn K (.ref C) "__class__" = some (some (.builtin "object.__class__")))
      (hn : PySem.W.specialIn K (.builtin "object.__class__") "__get__" = some (some (.builtin "getset_descriptor.__get__"))) (htk : PySem.W.takesIn K (.builtin "object.__class__") = some true)
      (hm : PySem.W.mroIn K C (.type "object") = some true) : TyOf K H (.ref a) (.ref C)
theorem isinst_ok {x : V} {u t : Value} (I : Inv X pins σ H s) (rx : RelV x u) (ty : TyOf X.K H x t) (e : PySem.W.kitOne X.K t c = some b) (h : ∀ tk, Q (.bool b) { s with toks := tk }) :
    wpAny (model X.prog X.w) A (call (.builtin "isinstance") [u, c]) Q E s := by
  cases ty with
  | non => cases (show u = Value.none from rx); exact PySem.W.kia_one PySem.W.kitx_none I.kIn True.intro e (fun z => nomatch z) h
  | bl y => cases (show u = Value.bool y from rx); exact PySem.W.kia_one PySem.W.kitx_bool I.kIn True.intro e (fun z => nomatch z) h
  | int i => obtain ⟨t, q⟩ := (show ∃ t, u = Value.int i t from rx); cases q; exact PySem.W.kia_one PySem.W.kitx_int I.kIn True.intro e (fun z => nomatch z) h
  | str y => obtain ⟨t, q⟩ := (show ∃ t, u = Value.str y t from rx); cases q; exact PySem.W.kia_one PySem.W.kitx_str I.kIn True.intro e (fun z => nomatch z) h
  | flt y => obtain ⟨t, q⟩ := (show ∃ t, u = Value.float y t from rx); cases q; exact PySem.W.kia_one PySem.W.kitx_float I.kIn True.intro e (fun z => nomatch z) h
  | @lst a xs ea =>
    cases (show u = Value.ref a from rx)
    obtain ⟨_, _, n, _, h1⟩ := (show ObjOk X.prog X.w H s.heap a (.lst xs) from I.hok a _ ea)
    exact PySem.W.kia_one PySem.W.kitx_list I.kIn ⟨_, h1, rfl⟩ e (fun z => nomatch z) h
  | @frz a ob xs ea =>
    cases (show u = Value.ref a from rx)
    obtain ⟨_, _, _, n, _, h1⟩ := (show ObjOk X.prog X.w H s.heap a (.frz ob (.lst xs)) from I.hok a _ ea)
    exact PySem.W.kia_one PySem.W.kitx_list I.kIn ⟨_, h1, rfl⟩ e (fun z => nomatch z) h
  | @tup a xs ea =>
    cases (show u = Value.ref a from rx)
    obtain ⟨_, _, _, p, _⟩ := (show ObjOk X.prog X.w H s.heap a (.tup xs) from I.hok a _ ea)
    obtain ⟨o, h1, h2, _⟩ := p
    exact PySem.W.kia_one PySem.W.kitx_tuple I.kIn ⟨o, h1, h2⟩ e (fun z => nomatch z) h
  | @dK a kvs ea =>
    cases (show u = Value.ref a from rx)
    obtain ⟨_, _, vs, _, p⟩ := (show ObjOk X.prog X.w H s.heap a (.dK kvs) from I.hok a _ ea)
    obtain ⟨o, es, ep, h1, h2, _⟩ := p
    exact PySem.W.kia_one PySem.W.kitx_dict I.kIn ⟨o, h1, h2.1⟩ e (fun z => nomatch z) h
  | @dT a kvs ea =>
    cases (show u = Value.ref a from rx)
    obtain ⟨_, _, xs, _, o, es, ep, h1, h2, _⟩ := (show ObjOk X.prog X.w H s.heap a (.dT kvs) from I.hok a _ ea)
    exact PySem.W.kia_one PySem.W.kitx_dict I.kIn ⟨o, h1, h2.1⟩ e (fun z => nomatch z) h
  | @ins a C dx fs ea cl ha hn htk hm =>
    cases (show u = Value.ref a from rx)
    obtain ⟨mA, O, _⟩ := ins_get I.hok ea
    obtain ⟨od, J, _⟩ := O.look
    exact PySem.W.kia_one (PySem.W.kitx_own (cl.get _) cl.hd ha hn htk hm) I.kIn J e (fun z => nomatch z) h
end
end L2

namespace L2
open PySem PySem.Spec PyProof.Rows

structure Room (k : Nat) (A : Around) : Prop where
  hd : A.handled = none
  dp : A.depth + 3 * k + 5 < recursionLimit
  un : A.units + 16 * k + 200 < cLine
  gd : A.guards = some []
theorem Room.mono {j k : Nat} {A : Around} (r : Room k A) (h : j ≤ k) : Room j A := ⟨r.hd, by have := r.dp; omega, by have := r.un; omega, r.gd⟩
theorem Room.deeper {k : Nat} {A : Around} (r : Room (k + 1) A) (env : Env) : Room k (A.deeper env) :=
  ⟨r.hd, by have := r.dp; show A.depth + 1 + 3 * k + 5 < _; omega, by have := r.un; show A.units + 3 + 16 * k + 200 < _; omega, r.gd⟩
theorem make_depth {A : Around} {C : Addr} {us : List Value} {kw : List (Str × Value)} : (A.under (.builtin "type.__call__" ⟨.ref C :: us, kw⟩)).depth = A.depth + 1 := by
  first | rfl | simp [Around.under, Code.weight, Code.isCreation, Code.isGuard, Code.isCaller, Code.frames, Code.isFrame, guardIds]
theorem make_units {A : Around} {C : Addr} {us : List Value} {kw : List (Str × Value)} : (A.under (.builtin "type.__call__" ⟨.ref C :: us, kw⟩)).units = A.units + 1 := by
  first | rfl | simp [Around.under, Code.cUnits, Code.frames, Code.isFrame]
theorem Room.make {k : Nat} {A : Around} (r : Room (k + 1) A) (C : Addr) (us : List Value) (kw : List (Str × Value)) : Room k (A.under (.builtin "type.__call__" ⟨.ref C :: us, kw⟩)) :=
  ⟨r.hd, by have := r.dp; rw [make_depth]; omega, by have := r.un; rw [make_units]; omega, by have g := r.gd; simpa [Around.under, Code.guards, pushGuards, Code.isGuard, guardIds] using g⟩
theorem Room.depth {k : Nat} {A : Around} (r : Room k A) : A.depth < recursionLimit := by have := r.dp; omega
theorem Room.units {k : Nat} {A : Around} (r : Room k A) : A.units + 64 < cLine := by have := r.un; omega

noncomputable def tNil : TA := fun _ H Q => Q [] H
noncomputable def tCons_k1 (Q : (List V → Hp → Prop)) (x : V) : List V → Hp → Prop := fun xs H2 => Q (x :: xs) H2
noncomputable def tCons_k2 (tr : TA) (σ : St) (Q : (List V → Hp → Prop)) : V → Hp → Prop := fun x H1 => tr σ H1 (tCons_k1 Q x)
noncomputable def tCons (ta : TE) (tr : TA) : TA := fun σ H Q => ta σ H (tCons_k2 tr σ Q)
section
variable {X : Cx} {e : Expr} {es : List Expr} {te : TE} {t : TA} {pos : Pos}
theorem pa_nil : PA X [] tNil := fun _ _ _ _ H Q I h => Calls.spliced_nil ⟨[], H, I, .nil, h⟩
theorem pa_cons (ha : PE X e te) (hr : PA X es t) (hs : starEach (e :: es) X.env = (false, eval e X.env) :: starEach es X.env := by rfl) : PA X (e :: es) (tCons te t) := by
  intro pos pins s σ H Q I h
  rw [hs]
  show wpAny _ _ (spliced ((false, eval e X.env) :: backTo pos (starEach es X.env))) _ _ s
  refine Calls.spliced_cons (thn (ha pins s σ H _ I h) fun u s1 zq54 => ?_)
  obtain ⟨x, H1, I1, r1, q1⟩ := zq54
  exact thn (hr pos pins s1 σ H1 _ I1 q1) fun us s2 zq55 => (by obtain ⟨xs, H2, I2, r2, q2⟩ := zq55; exact ⟨x :: xs, H2, I2, .cons r1 r2, q2⟩)

noncomputable def tTup_k1 (Q : VK) : List V → Hp → Prop := fun xs H1 => xs.length ≤ sizeLine ∧ ∀ p, H1 p = none → Q (.ref p) (upd H1 p (.tup xs))
noncomputable def tTup (t : TA) : TE := fun σ H Q => t σ H (tTup_k1 Q)
noncomputable def tLst_k1 (Q : VK) : List V → Hp → Prop := fun xs H1 => xs.length ≤ sizeLine ∧ ∀ p, H1 p = none → Q (.ref p) (upd H1 p (.lst xs))
noncomputable def tLst (t : TA) : TE := fun σ H Q => t σ H (tLst_k1 Q)
theorem pe_tup {x1} (h : PA X es t) : PE X (.Tuple es x1 pos) (tTup t) := by
  intro pins s σ H Q I hq
  refine wpAny_Tuple_spliced (thn (h pos pins s σ H _ I hq) fun us s1 ⟨xs, H1, I1, r, z, q⟩ => ⟨by rw [← r.length]; exact z, ?_⟩)
  have hf : H1 s1.heap.objs.size = none := I1.hok.fresh (Nat.le_refl _)
  refine ⟨.ref s1.heap.objs.size, upd H1 s1.heap.objs.size (.tup xs), I1.laid (t' := s1.toks) (fun b u e => Heap.get?_push_of_some _ e) (Nat.le_refl _) ?_, rfl, q _ hf⟩
  exact ⟨z, us, r, ⟨_, Heap.get?_push_size _ rfl, rfl, _, rfl⟩, .new _ _ rfl⟩
theorem pe_lst (h : PA X es t) : PE X (.List es pos) (tLst t) := by
  intro pins s σ H Q I hq
  refine wpAny_List_spliced (thn (h pos pins s σ H _ I hq) fun us s1 ⟨xs, H1, I1, r, z, q⟩ => ⟨by rw [← r.length]; exact z, ?_⟩)
  have hf : H1 s1.heap.objs.size = none := I1.hok.fresh (Nat.le_refl _)
  refine ⟨.ref s1.heap.objs.size, upd H1 s1.heap.objs.size (.lst xs), I1.laid (t' := s1.toks) (fun b u e => Heap.get?_push_of_some _ e) (Nat.le_refl _) ?_, rfl, q _ hf⟩
  exact ⟨z, us, 0, r, Heap.get?_push_size _ rfl⟩
end

noncomputable abbrev Sp := List V → Hp → VK → XK → Prop
noncomputable abbrev CXT := List Env → Hp → Shared → XK → Value → Shared → Prop

structure Env0 (P : Program) (w : World) (K : PySem.W.Frag) (mg : Str → Option Value) (base : Heap) (A : Around) (outer : List Env) (s : Shared) (H : Hp) : Prop where
  frames : A.frames = some outer
  mod : Mod K mg base
  bs : ∀ b o, base.get? b = some o → s.heap.get? b = some o ∧ H b = none
  bsz : base.objs.size ≤ s.heap.objs.size
  funs : s.heap.FunFrames base outer
  frf : ∀ b ∈ frs outer, H b = none
  hok : HOk P w H s.heap
  bare : AllBare s.gens
noncomputable def CE (outer : List Env) (P : Program) (w : World) (H : Hp) (s : Shared) (Q : VK) (u : Value) (s' : Shared) : Prop :=
  ∃ v H', s'.os = s.os ∧ AllBare s'.gens ∧ Un (frs outer) [] H H' s.heap s'.heap ∧ HOk P w H' s'.heap ∧ RelV v u ∧ Q v H'
noncomputable def CR (CX : CXT) (outer : List Env) (P : Program) (w : World) (H : Hp) (s : Shared) (Q : VK) (E : XK) (r : Result) (s' : Shared) : Prop :=
  match r with
  | .ok (.ret u) => CE outer P w H s Q u s'
  | .ok _ => False
  | .error e => CX outer H s E e s'
structure FnOk (P : Program) (w : World) (K : PySem.W.Frag) (mg : Str → Option Value) (base : Heap) (CX : CXT) (k : Nat) (f : Addr) (fd : FuncData) (ps : List Str) (sp : Sp) : Prop where
  len : ∀ vs H Q E, sp vs H Q E → vs.length = ps.length
  run : ∀ (A : Around) (outer : List Env) (s : Shared) (H : Hp) (args : Args) (us : List Value) (vs : List V) (Q : VK) (E : XK), Room k A → Env0 P w K mg base A outer s H → BindsTo s fd args (ps.zip us) → Vals vs us → sp vs H Q E →
    codeAny (model P w) A (.call (.ref f) args) (CR CX outer P w H s Q E) s
theorem FnOk.mono {P : Program} {w : World} {K : PySem.W.Frag} {mg : Str → Option Value} {base : Heap} {CX : CXT} {j k : Nat} {f : Addr} {fd : FuncData} {ps : List Str} {sp : Sp} (F : FnOk P w K mg base CX j f fd ps sp) (h : j ≤ k) :
    FnOk P w K mg base CX k f fd ps sp := ⟨F.len, fun A outer s H args us vs Q E hr => F.run A outer s H args us vs Q E (hr.mono h)⟩

theorem Env0.make {P : Program} {w : World} {K : PySem.W.Frag} {mg : Str → Option Value} {base : Heap} {A : Around} {outer : List Env} {s : Shared} {H : Hp} (e : Env0 P w K mg base A outer s H) (C : Addr) (us : List Value) (kw : List (Str × Value)) :
    Env0 P w K mg base (A.under (.builtin "type.__call__" ⟨.ref C :: us, kw⟩)) outer s H := ⟨by first | exact e.frames | (simpa [Around.under, Code.envs, Code.isFrame, pushEnvs] using e.frames), e.mod, e.bs, e.bsz, e.funs, e.frf, e.hok, e.bare⟩

section
variable {X : Cx} {pins : List (Addr × Obj)} {σ : St} {H : Hp} {s s' : Shared}
theorem Inv.env0 (I : Inv X pins σ H s) : Env0 X.prog X.w X.K X.mg X.base X.A X.stack s H :=
  ⟨I.ok.frames, I.ok.mod, I.bs, Nat.le_trans I.ok.bsz I.sz, I.stack, I.stkFree, I.hok, I.bare⟩
theorem Inv.after {Q : VK} {u : Value} (I : Inv X pins σ H s) (h : CE X.stack X.prog X.w H s Q u s') : EP X pins σ Q u s' := by
  obtain ⟨v, H', os, bare, un, hok, r, q⟩ := h
  obtain ⟨hh, g, d, t, os'⟩ := s'
  obtain rfl : os' = s.os := os
  exact ⟨v, H', I.call (h' := hh) (g' := g) (d' := d) (t' := t) (ch := []) un hok bare (fun b z => absurd z (by simp)), r, q⟩
end

noncomputable def tCall_k1 (sp : Sp) (dvs : List V) (E : XK) (Q : VK) : List V → Hp → Prop := fun vs H1 => sp (vs ++ dvs) H1 Q E
noncomputable def tCall (sp : Sp) (dvs : List V) (E : XK) (t : TA) : TE := fun σ H Q => t σ H (tCall_k1 sp dvs E Q)

noncomputable def Binds (K : PySem.W.Frag) (fd : FuncData) (ps : List Str) (ds : List Value) : Prop :=
  ∀ (s : Shared) (us : List Value), K.In s.heap → (us ++ ds).length = ps.length → BindsTo s fd ⟨us, []⟩ (ps.zip (us ++ ds))
theorem Binds.all {K : PySem.W.Frag} {fd : FuncData} {ps : List Str} (h : ∀ us : List Value, us.length = ps.length → bindArgs fd ⟨us, []⟩ = pure (ps.zip us)) : Binds K fd ps [] := fun s us _ hl => by
  rw [List.append_nil] at hl ⊢
  exact .of_eq (h us hl)

noncomputable def Passes (CX : CXT) (X : Cx) (E : XK) : Prop := ∀ (pins : List (Addr × Obj)) (σ : St) (H : Hp) (s : Shared) (e : Value) (s' : Shared), Inv X pins σ H s → CX X.stack H s E e s' → X.xe e s'

section
variable {X : Cx} {CX : CXT} {k : Nat} {f C : Addr} {fd : FuncData} {ps : List Str} {sp : Sp} {dvs : List V} {ds : List Value} {E : XK} {x m : Str} {p pos apos : Pos} {e o : Expr} {es : List Expr} {ta : TE} {t : TA}

theorem run_fn {pins : List (Addr × Obj)} {σ : St} {H : Hp} {s : Shared} {Q : VK} {us : List Value} {vs : List V} (F : FnOk X.prog X.w X.K X.mg X.base CX k f fd ps sp) (hr : Room k X.A) (hb : Binds X.K fd ps ds) (hd : Vals dvs ds) (hx : Passes CX X E)
    (I : Inv X pins σ H s) (r : Vals vs us) (h : sp (vs ++ dvs) H Q E) : wpAny (model X.prog X.w) X.A (call (.ref f) us) (EP X pins σ Q) X.xe s := by
  have r2 : Vals (vs ++ dvs) (us ++ ds) := r.append hd
  have hl : (us ++ ds).length = ps.length := by rw [← r2.length]; exact F.len _ _ _ _ h
  refine wpAny_call (codeAny_mono (F.run X.A X.stack s H ⟨us, []⟩ (us ++ ds) (vs ++ dvs) Q E hr I.env0 (hb s us I.kIn hl) r2 h) fun r s' hq => ?_)
  cases r with
  | error e => exact hx pins σ H s e s' I hq
  | ok fl =>
    cases fl with
    | ret u => exact I.after hq
    | next => exact False.elim hq
    | brk => exact False.elim hq
    | cont => exact False.elim hq

theorem pe_call (F : FnOk X.prog X.w X.K X.mg X.base CX k f fd ps sp) (hr : Room k X.A) (hg : Gl X x) (hm : X.mg x = some (.ref f)) (hk : PySem.W.keepIn X.K (.ref f) = true) (hb : Binds X.K fd ps ds) (hd : Vals dvs ds) (hx : Passes CX X E)
    (ha : PA X (e :: es) t) (hdb : (x == ("__debug__" : Str)) = false := by decide) (he : starEach (e :: es) X.env = (false, eval e X.env) :: starEach es X.env := by rfl) (hpl : (backTo pos (starEach es X.env)).any (·.1) = false := by rfl) :
    PE X (.Call (.Name x p) (e :: es) [] pos) (tCall sp dvs E t) := by
  intro pins s σ H Q I h
  refine wpAny_Call_Name_kw (ld_glob I hg hm ?_ hdb)
  refine PySem.W.callWith_K (h₀ := X.base) I.ok.mod.kin hk (thn (ha pos pins s σ H _ I h) fun us s1 ⟨vs, H1, I1, r, q⟩ => ⟨I1.kIn, ?_⟩) he hpl
  exact run_fn F hr hb hd hx I1 r q



end

section
variable {X : Cx} {CX : CXT} {k : Nat} {f C : Addr} {fd : FuncData} {ps ks : List Str} {sp : Sp} {E : XK} {x m : Str} {p pos apos kpos : Pos} {e o : Expr} {es : List Expr} {kws : List Keyword} {te ta : TE} {t tk : TA} {nm : Option Str}

variable {g : List Value → List Value → List Value} {gV : List V → List V → List V}
end

structure FnScope (N P : List Str) (sc : Scope) : Prop where
  kind : sc.kind = .function
  co : sc.isCoroutine = false
  gen : sc.isGenerator = false
  nd : N.Nodup
  pre : N.take P.length = P
  par : ∀ x ∈ P, sc.names.lookup x = some .local ∨ sc.names.lookup x = some .cell
  nofree : ∀ y ∈ sc.names, y.2 ≠ .free

theorem bindL_out {kindOf : Str → Option NameKind} {x : Str} : ∀ {binds : List (Str × Value)} {m : Str → Option Value}, (∀ v, (x, v) ∉ binds) → bindL kindOf binds m x = m x
  | [], _, _ => rfl
  | (n, v) :: r, m, h => by
    unfold bindL
    rw [bindL_out fun w hw => h w (List.mem_cons_of_mem _ hw)]
    split
    · have : x ≠ n := by rintro rfl; exact h v List.mem_cons_self
      simp [this]
    · rfl
theorem bindC_out {kindOf : Str → Option NameKind} {x : Str} : ∀ {binds : List (Str × Value)} {m : Str → Option Value}, (∀ v, (x, v) ∉ binds) → bindC kindOf binds m x = m x
  | [], _, _ => rfl
  | (n, v) :: r, m, h => by
    unfold bindC
    rw [bindC_out fun w hw => h w (List.mem_cons_of_mem _ hw)]
    split
    · rfl
    · have : x ≠ n := by rintro rfl; exact h v List.mem_cons_self
      simp [this]
theorem bindL_get {kindOf : Str → Option NameKind} {x : Str} {v : Value} : ∀ {P : List Str} {vs : List Value} {i : Nat} {m : Str → Option Value}, P.Nodup → P[i]? = some x → vs[i]? = some v → kindOf x = some .local →
    bindL kindOf (P.zip vs) m x = some v
  | [], _, _, _, _, h, _, _ => by simp at h
  | _ :: _, [], _, _, _, _, h, _ => by simp at h
  | p :: P, w :: vs, 0, m, nd, h1, h2, hk => by
    simp at h1 h2; subst h1; subst h2
    show bindL kindOf ((p, w) :: P.zip vs) m p = _
    unfold bindL
    rw [bindL_out fun v hv => (List.nodup_cons.mp nd).1 (List.of_mem_zip hv).1, if_pos hk]
    simp
  | p :: P, w :: vs, i + 1, m, nd, h1, h2, hk => by
    show bindL kindOf ((p, w) :: P.zip vs) m x = _
    unfold bindL
    exact bindL_get (i := i) (List.nodup_cons.mp nd).2 (by simpa using h1) (by simpa using h2) hk
theorem bindC_get {kindOf : Str → Option NameKind} {x : Str} {v : Value} : ∀ {P : List Str} {vs : List Value} {i : Nat} {m : Str → Option Value}, P.Nodup → P[i]? = some x → vs[i]? = some v → kindOf x ≠ some .local →
    bindC kindOf (P.zip vs) m x = some v
  | [], _, _, _, _, h, _, _ => by simp at h
  | _ :: _, [], _, _, _, _, h, _ => by simp at h
  | p :: P, w :: vs, 0, m, nd, h1, h2, hk => by
    simp at h1 h2; subst h1; subst h2
    show bindC kindOf ((p, w) :: P.zip vs) m p = _
    unfold bindC
    rw [bindC_out fun v hv => (List.nodup_cons.mp nd).1 (List.of_mem_zip hv).1, if_neg hk]
    simp
  | p :: P, w :: vs, i + 1, m, nd, h1, h2, hk => by
    show bindC kindOf ((p, w) :: P.zip vs) m x = _
    unfold bindC
    exact bindC_get (i := i) (List.nodup_cons.mp nd).2 (by simpa using h1) (by simpa using h2) hk

noncomputable def start (N : List Str) (vs : List V) : St := vs.map some ++ List.replicate (N.length - vs.length) none

noncomputable def cxOf (CX : CXT) (P : Program) (w : World) (K : PySem.W.Frag) (mg : Str → Option Value) (base : Heap) (N : List Str) (qual : Str) (scope : Scope) (f : Addr) (cd : Value) (A : Around) (outer : List Env) (s : Shared) (H : Hp) (E : XK) : Cx where
  prog := P
  w := w
  K := K
  mg := mg
  base := base
  A := A.deeper (envOfC qual scope s.heap.objs.size f cd)
  N := N
  s₀ := s
  H₀ := H
  env := envOfC qual scope s.heap.objs.size f cd
  outer := outer
  stack := envOfC qual scope s.heap.objs.size f cd :: outer
  ex := []
  calm := true
  fn := fun _ => true
  pn := []
  xe := fun e s' => wpAny (model P w) (A.deeper (envOfC qual scope s.heap.objs.size f cd)) (leaving (envOfC qual scope s.heap.objs.size f cd) e) (fun _ s'' => CX outer H s E e s'') (fun e' s'' => CX outer H s E e' s'') s'

theorem cell_has {sc : Scope} {n : Nat} {x : Str} (h : sc.names.lookup x = some .cell) : ∃ c, (cellsFrom n sc.names []).lookup x = some c := by
  have q := PySem.W.cellsFrom_some sc.names n [] (.inl h)
  exact Option.isSome_iff_exists.mp q

theorem inv_start {CX : CXT} {P : Program} {w : World} {K : PySem.W.Frag} {mg : Str → Option Value} {base : Heap} {N ps : List Str} {qual : Str} {scope : Scope} {f : Addr} {cd : Value} {A : Around} {outer : List Env} {s s1 : Shared} {H : Hp} {E : XK} {us : List Value} {vs : List V}
    (S : FnScope N ps scope) (hd : A.handled = none) (e0 : Env0 P w K mg base A outer s H) (hl : vs.length = ps.length) (r : Vals vs us)
    (x : InCallC s s.heap.objs.size (bindL (envOfC qual scope s.heap.objs.size f cd).kindOf (ps.zip us) fun _ => none) (cellsFrom (s.heap.objs.size + 1) scope.names []) (bindC (envOfC qual scope s.heap.objs.size f cd).kindOf (ps.zip us) fun _ => none) s1) :
    Inv (cxOf CX P w K mg base N qual scope f cd A outer s H E) [] (start N vs) H s1 := by
  have hpl : ps.length ≤ N.length := by have := congrArg List.length S.pre; rw [List.length_take] at this; omega
  obtain ⟨h1, tk, rfl, hk⟩ := x.done
  have noA : ∀ b : Addr, b ∉ (cxOf CX P w K mg base N qual scope f cd A outer s H E).ex := fun b z => absurd (show b ∈ ([] : List Addr) from z) (by simp)
  refine ⟨⟨e0.mod, S.kind, rfl, rfl, Nat.le_refl _, fun y z c h1 h2 => ?_, fun y hy => ?_, fun y c _ h => ?_, fun _ => hd, Around.frames_deeper e0.frames, .inr ⟨rfl, rfl⟩, fun b z => absurd z (noA b), e0.bs, e0.bsz, fun b _ _ => noA b, fun b z => absurd z (noA b), e0.funs, e0.frf⟩,
    rfl, e0.bare, Un.kept hk, ⟨_, x.toInCall.ns, fun i y v h1 h2 h3 => ?_⟩, fun y c h => ⟨_, x.cell y c h⟩, e0.hok.fresh (Nat.le_refl _), fun y c h => ?_, fun p hp => absurd (show p ∈ ([] : List (Addr × Obj)) from hp) (by simp), e0.hok.kept hk, ?_⟩
  · exact name_of_addr x.apart (PySem.mem_of_lookup h1) (PySem.mem_of_lookup h2)
  · have hy : scope.names.lookup y = some .cell ∨ scope.names.lookup y = some .free := hy
    rcases hy with hy | hy
    · exact cell_has hy
    · exact absurd rfl (S.nofree _ (PySem.mem_of_lookup hy))
  · exact Nat.le_of_lt (x.above y c (PySem.mem_of_lookup h))
  · have hi : i < vs.length := by
      unfold start at h2
      by_cases hi : i < vs.length
      · exact hi
      · rw [List.getElem?_append_right (by simpa using hi)] at h2
        rw [List.getElem?_replicate] at h2
        split at h2 <;> cases h2
    have ha : vs[i]? = some v := by
      unfold start at h2
      rw [List.getElem?_append_left (by simpa using hi), List.getElem?_map] at h2
      cases e : vs[i]? with
      | none => rw [e] at h2; cases h2
      | some a => rw [e] at h2; cases h2; rfl
    obtain ⟨u, hu, rv⟩ := r.get ha
    have hp : ps[i]? = some y := by
      rw [← S.pre, List.getElem?_take_of_lt (by omega)]; exact h1
    have ndP : ps.Nodup := by rw [← S.pre]; exact S.nd.sublist (List.take_sublist _ _)
    refine ⟨u, rv, ?_⟩
    rcases S.par y (List.mem_of_getElem? hp) with k | k
    · exact .inl ⟨k, bindL_get ndP hp hu k⟩
    · obtain ⟨c, e⟩ := cell_has (n := s.heap.objs.size + 1) k
      refine .inr ⟨.inl k, c, e, ?_⟩
      have q := x.cell y c e
      rw [bindC_get ndP hp hu (by show scope.names.lookup y ≠ _; rw [k]; decide)] at q
      exact q
  · exact e0.hok.fresh (Nat.le_of_lt (x.above y c (PySem.mem_of_lookup h)))
  · unfold start
    show _ = N.length
    rw [List.length_append, List.length_map, List.length_replicate]
    omega

theorem fn_of {CX : CXT} {P : Program} {w : World} {K : PySem.W.Frag} {mg : Str → Option Value} {base : Heap} {k : Nat} {f : Addr} {name qual : Str} {params : Arguments} {body : List Stmt} {scope : Scope} {dV kV doc pm cdv ct oc : Value} {an od : Option Addr}
    {osl : Array (Option Value)} {N ps : List Str} {sp : Sp} (lk : K.lookup f = some ⟨oc, od, .func (PySem.W.fnOf name qual params body scope dV kV doc pm an cdv ct), osl⟩) (hcd : PySem.W.codeIn K cdv qual = true) (S : FnScope N ps scope)
    (len : ∀ vs H Q E, sp vs H Q E → vs.length = ps.length)
    (hbody : ∀ (A : Around) (outer : List Env) (s : Shared) (H : Hp) (vs : List V) (Q : VK) (E : XK), Room k (A.deeper (envOfC qual scope s.heap.objs.size f cdv)) → sp vs H Q E →
      ∃ t, PSs (cxOf CX P w K mg base N qual scope f cdv A outer s H E) body t ∧ t { nx := fun _ H' => Q .non H', rt := Q } (start N vs) H) :
    FnOk P w K mg base CX (k + 1) f (PySem.W.fnOf name qual params body scope dV kV doc pm an cdv ct) ps sp := by
  refine ⟨len, fun A outer s H args us vs Q E hr e0 hb r hsp => ?_⟩
  have hl := len _ _ _ _ hsp
  have KX : K.In s.heap := e0.mod.kin.keeps fun b o e => (e0.bs b o e).1
  have lim : s.heap.NoLimit := e0.mod.nolimit.keeps fun b o e => (e0.bs b o e).1
  have hkind : ∀ y ∈ ps.zip us, scope.names.lookup y.1 = some .local ∨ (scope.names.lookup y.1 = some .cell ∧ ((cellsFrom (s.heap.objs.size + 1) scope.names []).lookup y.1).isSome = true) := fun ⟨n, v⟩ hy => by
    rcases S.par n (List.of_mem_zip hy).1 with q | q
    · exact .inl q
    · exact .inr ⟨q, PySem.W.cellsFrom_some _ _ _ (.inl q)⟩
  refine codeAny_call_function hr.depth (KX _ _ lk) rfl S.co S.gen rfl (PySem.W.codeRec_of KX hcd) (hb _ _ _ _ ?_)
  refine wpAny_newFunctionEnv_cells S.kind hkind fun env he s1 x => ?_
  subst he
  refine ⟨lim.keeps x.toInCall.keep, codeAny_func ?_⟩
  obtain ⟨t, ht, hq⟩ := hbody A outer s H vs Q E (hr.deeper _) hsp
  have I : Inv (cxOf CX P w K mg base N qual scope f cdv A outer s H E) [] (start N vs) H s1 := inv_start S hr.hd e0 hl r x
  refine wpAny_mono (ht [] s1 (start N vs) H _ I hq) (fun fl s' hs => ?_) fun e s' hs => hs
  have fin : ∀ {σ' : St} {H' : Hp} {v : V} {u : Value}, Inv (cxOf CX P w K mg base N qual scope f cdv A outer s H E) [] σ' H' s' → RelV v u → Q v H' → CE outer P w H s Q u s' :=
    fun {σ' H' v u} J rv q => ⟨v, H', J.os, J.bare, J.base, J.hok, rv, q⟩
  cases fl with
  | ret u =>
    obtain ⟨v, σ', H', J, rv, q⟩ := hs
    exact fin J rv q
  | next =>
    obtain ⟨σ', H', J, q⟩ := hs
    exact fin (v := V.non) (u := Value.none) J rfl q
  | brk =>
    obtain ⟨_, _, _, q⟩ := hs
    exact False.elim q
  | cont =>
    obtain ⟨_, _, _, q⟩ := hs
    exact False.elim q
end L2

namespace L2
open PySem PySem.Spec PyProof.Rows
section
variable {X : Cx} {x : Str} {p pos : Pos} {e : Expr} {es : List Expr} {t : TA} {id T : String} {r : List V → Hp → VK → Prop}

noncomputable def tCB_k1 (r : List V → Hp → VK → Prop) (Q : VK) : List V → Hp → Prop := fun vs H1 => r vs H1 Q
noncomputable def tCB (r : List V → Hp → VK → Prop) (t : TA) : TE := fun σ H Q => t σ H (tCB_k1 r Q)
theorem pe_callB (hc : CallR X (.builtin id) r) (hg : Gl X x) (hm : X.mg x = none) (hv : bootBuiltins x = some (.builtin id)) (ha : PA X (e :: es) t) (hn : x ≠ "__name__" := by decide) (hdb : (x == ("__debug__" : Str)) = false := by decide)
    (he : starEach (e :: es) X.env = (false, eval e X.env) :: starEach es X.env := by rfl) (hpl : (backTo pos (starEach es X.env)).any (·.1) = false := by rfl) : PE X (.Call (.Name x p) (e :: es) [] pos) (tCB r t) := by
  intro pins s σ H Q I h
  refine wpAny_Call_Name_kw (ld_blt I hg hm hv ?_ hn hdb)
  exact PyProof.Rows.callWith_builtin1 (thn (ha pos pins s σ H _ I h) fun us s1 zq60 => (by obtain ⟨vs, H1, I1, r1, q1⟩ := zq60; exact hc pins s1 σ H1 vs us Q I1 r1 q1)) he hpl
theorem pe_callTy (hc : CallR X (.type T) r) (hg : Gl X x) (hm : X.mg x = none) (hv : bootBuiltins x = some (.type T)) (ha : PA X (e :: es) t) (hn : x ≠ "__name__" := by decide) (hdb : (x == ("__debug__" : Str)) = false := by decide)
    (he : starEach (e :: es) X.env = (false, eval e X.env) :: starEach es X.env := by rfl) (hpl : (backTo pos (starEach es X.env)).any (·.1) = false := by rfl) : PE X (.Call (.Name x p) (e :: es) [] pos) (tCB r t) := by
  intro pins s σ H Q I h
  refine wpAny_Call_Name_kw (ld_blt I hg hm hv ?_ hn hdb)
  exact PyProof.Rows.callWith_type1 (thn (ha pos pins s σ H _ I h) fun us s1 zq61 => (by obtain ⟨vs, H1, I1, r1, q1⟩ := zq61; exact hc pins s1 σ H1 vs us Q I1 r1 q1)) he hpl
end
end L2

namespace HT
open PySem PyProof.Rows



section
open PySem.SeqAt
open PySem.AutoSeq1 (wpAny_loadPart')
open PySem.MeetsSeq PySem.MeetsSeq2 PySem.MeetsSeq3

end

section
variable {prog : Program} {w : World} {A : Around} {E : Value → Shared → Prop} {s : Shared}


theorem cat_tup {t b : Addr} {vs ws : List Value} {Q : Value → Shared → Prop} (ht : IsTup s.heap t vs.toArray) (hb : IsTup s.heap b ws.toArray) (hv : vs ≠ [])
    (h1 : ws = [] → Q (.ref t) s) (h2 : ws ≠ [] → Q (.ref s.heap.objs.size) { s with heap := s.heap.push { cls := .type "tuple", data := .seq (vs ++ ws).toArray } })
    (hsz : vs.length + ws.length ≤ sizeLine) : wpAny (model prog w) A (binaryOp .Add (.ref t) (.ref b)) Q E s := by
  obtain ⟨⟨cls, dd, data, sl⟩, ho, hc, n, hd⟩ := id ht
  obtain ⟨⟨cls2, dd2, data2, sl2⟩, ho2, hc2, n2, hd2⟩ := id hb
  simp only at hc hd hc2 hd2
  subst hc hd hc2 hd2
  have e : vs.toArray ++ ws.toArray = (vs ++ ws).toArray := by simp
  by_cases hw : ws = []
  · exact concat_meets ⟨_, ho, rfl⟩ ⟨_, ho2, rfl⟩ noFill_tuple_add seq_tuple_add PySem.F.slot_tuple_add PySem.F.entry_tuple_add (PySem.F.args_tuple_add_2 _ _)
      (tuple_addW1 t b vs.toArray ws.toArray n n2 dd dd2 sl sl2 (by simpa using hv) (by simp [hw])) ⟨ho, ho2, h1 hw⟩
  · refine concat_meets ⟨_, ho, rfl⟩ ⟨_, ho2, rfl⟩ noFill_tuple_add seq_tuple_add PySem.F.slot_tuple_add PySem.F.entry_tuple_add (PySem.F.args_tuple_add_2 _ _)
      (tuple_addW2 t b vs.toArray ws.toArray n n2 dd dd2 sl sl2 (by simpa using hv) (by simpa using hw) (by rw [List.size_toArray, List.size_toArray]; exact hsz)) ⟨ho, ho2, ?_⟩
    rw [e]
    exact h2 hw

noncomputable def sIx (n d : Nat) : Option Int → Nat
  | none => d
  | some v => if v < 0 then (v + (n : Int)).toNat else min v.toNat n
theorem sIx_none (n d : Nat) : sIx n d none = d := rfl
theorem sIx_nat (n d k : Nat) : sIx n d (some (k : Int)) = min k n := by
  show (if (k : Int) < 0 then ((k : Int) + (n : Int)).toNat else min (k : Int).toNat n) = min k n
  rw [if_neg (by omega), Int.toNat_natCast]
theorem sIx_le (n d : Nat) (hd : d ≤ n) (o : Option Int) : sIx n d o ≤ n := by
  cases o with
  | none => exact hd
  | some v =>
    show (if v < 0 then (v + (n : Int)).toNat else min v.toNat n) ≤ n
    by_cases hv : v < 0
    · rw [if_pos hv]; omega
    · rw [if_neg hv]; exact Nat.min_le_right _ _
theorem clip_eq (v : Int) (n d : Nat) : (if v < 0 then max (v + (n : Int)) 0 else min v (n : Int)) = ((sIx n d (some v) : Nat) : Int) := by
  show (if v < 0 then max (v + (n : Int)) 0 else min v (n : Int)) = (((if v < 0 then (v + (n : Int)).toNat else min v.toNat n) : Nat) : Int)
  by_cases hv : v < 0
  · simp only [if_pos hv]; omega
  · simp only [if_neg hv]; omega
theorem adjust_gen (lo hi : Option Int) (n : Nat) : Builtin.Slice.sliceAdjust lo hi 1 (n : Int) = (((sIx n 0 lo : Nat) : Int), ((sIx n n hi : Nat) : Int)) := by
  have h1 : ¬ ((1 : Int) < 0) := by omega
  unfold Builtin.Slice.sliceAdjust
  simp only [h1, if_false]
  refine Prod.ext ?_ ?_
  · cases lo with
    | none => rfl
    | some v => exact clip_eq v n 0
  · cases hi with
    | none => rfl
    | some v => exact clip_eq v n n
theorem places_gen (i j : Nat) : Builtin.Slice.slicePlaces (i : Int) (j : Int) 1 = j - i := by
  unfold Builtin.Slice.slicePlaces
  have h1 : (1 : Int) > 0 := by omega
  simp only [h1, if_true, Int.ediv_one]
  split <;> omega
theorem slicePart_ {v : Value} {o : Option Int} {Q : Option Int → Shared → Prop} (p : IsPart v o) (h : Q o s) : wpAny (model prog w) A (Builtin.Slice.slicePartIndex v) Q E s := by
  cases p with
  | none => exact slicePart_none h
  | int i t => exact slicePart_int h
theorem sliceApplied_gen {sl : Addr} {vl vu : Value} {lo hi : Option Int} {n : Nat} {Q : Int × Int × Nat → Shared → Prop} (hs : s.heap.IsSliceOf sl vl vu .none) (pl : IsPart vl lo) (pu : IsPart vu hi)
    (h : Q (((sIx n 0 lo : Nat) : Int), 1, sIx n n hi - sIx n 0 lo) s) : wpAny (model prog w) A (Builtin.Slice.sliceApplied (.ref sl) (pure (n : Int))) Q E s := by
  obtain ⟨os, hos, hcs, hds⟩ := id hs
  unfold Builtin.Slice.sliceApplied Builtin.Slice.sliceFields
  refine wpAny_bind (wpAny_bind (wpAny_field hos hds (x := vl) rfl (wpAny_bind (wpAny_field hos hds (x := vu) rfl (wpAny_bind (wpAny_field hos hds (x := .none) rfl (wpAny_pure ?_)))))))
  refine wpAny_bind (slicePart_none ?_)
  show wpAny _ _ (if ((1 : Int) == 0) = true then _ else _) _ _ s
  rw [if_neg (by decide)]
  refine wpAny_bind (slicePart_ pl (wpAny_bind (slicePart_ pu (wpAny_bind (wpAny_pure ?_)))))
  show wpAny _ _ (match Builtin.Slice.sliceAdjust lo hi 1 (n : Int) with | (lo, hi) => pure (lo, (1 : Int), Builtin.Slice.slicePlaces lo hi 1)) _ _ s
  rw [adjust_gen lo hi n]
  show wpAny _ _ (pure (((sIx n 0 lo : Nat) : Int), (1 : Int), Builtin.Slice.slicePlaces ((sIx n 0 lo : Nat) : Int) ((sIx n n hi : Nat) : Int) 1)) _ _ s
  rw [places_gen]
  exact wpAny_pure h
theorem pick_gen (xs : Array Value) (i k : Nat) : ((List.range k).filterMap fun (m : Nat) => xs[((i : Int) + (m : Int) * 1).toNat]?).toArray = ((xs.toList.drop i).take k).toArray := by
  have e : (fun (m : Nat) => xs[((i : Int) + (m : Int) * 1).toNat]?) = fun m => xs[i + m]? := by
    funext m
    have : ((i : Int) + (m : Int) * 1).toNat = i + m := by omega
    rw [this]
  rw [e]
  have := pick_run xs i k
  rw [List.filterMap_map] at this
  have e2 : ((fun x => xs[x]?) ∘ fun x => i + x) = fun m => xs[i + m]? := rfl
  rw [e2] at this
  rw [this]

theorem getItem_tuple_cut {t sl : Addr} {items : Array Value} {vl vu : Value} {lo hi : Option Int} {Q : Value → Shared → Prop} (ht : IsTup s.heap t items) (hs : s.heap.IsSliceOf sl vl vu .none) (pl : IsPart vl lo) (pu : IsPart vu hi)
    (hw : ¬ (sIx items.size 0 lo = 0 ∧ sIx items.size items.size hi = items.size))
    (h : Q (.ref s.heap.objs.size) { s with heap := s.heap.push { cls := .type "tuple", data := .seq ((items.toList.drop (sIx items.size 0 lo)).take (sIx items.size items.size hi - sIx items.size 0 lo)).toArray } })
    (hsz : items.size ≤ sizeLine) : wpAny (model prog w) A (getItem (.ref t) (.ref sl)) Q E s := by
  have htake : sizeOk (.seq ((items.toList.drop (sIx items.size 0 lo)).take (sIx items.size items.size hi - sIx items.size 0 lo)).toArray) := by
    show ((items.toList.drop (sIx items.size 0 lo)).take (sIx items.size items.size hi - sIx items.size 0 lo)).toArray.size ≤ sizeLine
    rw [List.size_toArray, List.length_take, List.length_drop, Array.length_toList]
    omega
  have hj : sIx items.size items.size hi ≤ items.size := sIx_le _ _ (Nat.le_refl _) hi
  obtain ⟨os, hos, hcs, hds⟩ := id hs
  have hTs : s.TypeIs (.ref sl) "slice" := ⟨os, hos, hcs⟩
  unfold getItem
  try with_reducible refine wpAny_holding ?_
  first | refine wpAny_bind (wpAny_pure ?_) | skip
  refine wpAny_bind (wpAny_sequenceKey ht.typeIs (by decide) ?_)
  refine wpAny_bind (wpAny_callSpecial?_slot (name := Str.ofString "__getitem__") ht.typeIs PyProof.Rows.slot_tuple_getitem
    (wpAny_call_entry PyProof.Rows.slot_tuple_getitem ht.typeIs entry_tuple_getitem ?_ (args_tuple_getitem _ _)))
  show wpAny _ _ (Builtin.Tuple.tupleItemsOf (.ref t) >>= _) _ _ s
  refine wpAny_bind (tupleItemsOf_ ht ?_)
  refine wpAny_bind (wpAny_typeOf hTs ?_)
  rw [if_pos (by decide)]
  refine wpAny_bind (sliceApplied_gen hs pl pu ?_)
  have hno : ¬ ((((sIx items.size 0 lo : Nat) : Int) == 0 && (1 : Int) == 1 && (sIx items.size items.size hi - sIx items.size 0 lo) == items.size) = true) := by
    intro q
    rw [Bool.and_eq_true, Bool.and_eq_true] at q
    have q1 : ((sIx items.size 0 lo : Nat) : Int) = 0 := eq_of_beq q.1.1
    have q2 : sIx items.size items.size hi - sIx items.size 0 lo = items.size := eq_of_beq q.2
    exact hw ⟨by omega, by omega⟩
  show wpAny _ _ (if (((sIx items.size 0 lo : Nat) : Int) == 0 && (1 : Int) == 1 && (sIx items.size items.size hi - sIx items.size 0 lo) == items.size) = true then _ else _) _ _ s
  rw [if_neg hno, pick_gen]
  first
    | exact wpAny_bind (m := Builtin.Tuple.tupleExact _) (wpAny_newObj_type (wpAny_pure ⟨_, rfl, wpAny_pure h⟩) htake)
    | exact wpAny_bind (m := Builtin.Tuple.tupleExact _) (wpAny_newObj_type (wpAny_bind (wpAny_pure (wpAny_pure ⟨_, rfl, wpAny_pure h⟩))) htake)
    | exact wpAny_bind (wpAny_bind (m := Builtin.Tuple.tupleExact _) (wpAny_newObj_type (wpAny_pure (wpAny_pure ⟨_, rfl, wpAny_pure h⟩)) htake))
    | exact wpAny_bind (wpAny_bind (m := Builtin.Tuple.tupleExact _) (wpAny_newObj_type (wpAny_pure ⟨_, rfl, wpAny_pure h⟩) htake))
end
end HT

namespace L2
open PySem PySem.Spec PyProof.Rows

noncomputable abbrev TO := St → Hp → (Option Int → Hp → Prop) → Prop
noncomputable def PO (X : Cx) (e : Option Expr) (t : TO) : Prop :=
  ∀ (pins : List (Addr × Obj)) (s : Shared) (σ : St) (H : Hp) (Q : Option Int → Hp → Prop), Inv X pins σ H s → t σ H Q →
    wpAny (model X.prog X.w) X.A (evalPart e X.env) (fun u s' => ∃ o H', Inv X pins σ H' s' ∧ IsPart u o ∧ Q o H') X.xe s
noncomputable def tNoPart : TO := fun _ H Q => Q none H
inductive IsI (x : V) (H : Hp) (Q : Option Int → Hp → Prop) : Prop
  | mk : ∀ i, (x = .int i) → (Q (some i) H) → IsI x H Q
noncomputable def tPart_k1 (Q : (Option Int → Hp → Prop)) : V → Hp → Prop := fun x H1 => IsI x H1 Q
noncomputable def tPart (t : TE) : TO := fun σ H Q => t σ H (tPart_k1 Q)


section
variable {X : Cx} {e : Expr} {te : TE} {lo hi : Option Expr} {tl th : TO} {pos p2 : Pos}

theorem po_none : PO X none tNoPart := by
  intro pins s σ H Q I h
  rw [evalPart_none]
  exact wpAny_pure ⟨none, H, I, .none, h⟩
theorem po_some (h : PE X e te) : PO X (some e) (tPart te) := by
  intro pins s σ H Q I hw
  rw [evalPart_some]
  refine thn (h pins s σ H _ I hw) fun u s1 zq62 => ?_
  obtain ⟨x, H1, I1, r1, q1⟩ := zq62
  obtain ⟨i, rfl, q⟩ := q1
  obtain ⟨t, rfl⟩ := r1
  exact ⟨some i, H1, I1, .int i t, q⟩

noncomputable def SlR (X : Cx) (r : V → Option Int → Option Int → Hp → VK → Prop) : Prop :=
  ∀ (pins : List (Addr × Obj)) (s : Shared) (σ : St) (H : Hp) (x : V) (v vl vu : Value) (lo hi : Option Int) (sl : Addr) (Q : VK), Inv X pins σ H s → RelV x v → s.heap.IsSliceOf sl vl vu .none → IsPart vl lo → IsPart vu hi → r x lo hi H Q →
    ∃ T id, typeLookup (.type T) "__getitem__" = pure (some (.builtin id)) ∧ s.TypeIs v T ∧ wpAny (model X.prog X.w) X.A (getItem v (.ref sl)) (EP X pins σ Q) X.xe s
noncomputable def tSl_k1 (r : V → Option Int → Option Int → Hp → VK → Prop) (Q : VK) (x : V) (l : Option Int) : Option Int → Hp → Prop := fun u H3 => r x l u H3 Q
noncomputable def tSl_k2 (r : V → Option Int → Option Int → Hp → VK → Prop) (th : TO) (σ : St) (Q : VK) (x : V) : Option Int → Hp → Prop := fun l H2 => th σ H2 (tSl_k1 r Q x l)
noncomputable def tSl_k3 (r : V → Option Int → Option Int → Hp → VK → Prop) (tl : TO) (th : TO) (σ : St) (Q : VK) : V → Hp → Prop := fun x H1 => tl σ H1 (tSl_k2 r th σ Q x)
noncomputable def tSl (r : V → Option Int → Option Int → Hp → VK → Prop) (te : TE) (tl th : TO) : TE := fun σ H Q => te σ H (tSl_k3 r tl th σ Q)
theorem pe_slice {r : V → Option Int → Option Int → Hp → VK → Prop} (hr : SlR X r) (he : PE X e te) (hl : PO X lo tl) (hu : PO X hi th) : PE X (.Subscript e (.Slice lo hi none p2) pos) (tSl r te tl th) := by
  intro pins s σ H Q I h
  refine Subscript_ (thn (he pins s σ H _ I h) fun v s1 zq63 => ?_)
  obtain ⟨x, H1, I1, r1, q1⟩ := zq63
  refine wpAny_Slice (thn (hl pins s1 σ H1 _ I1 q1) fun vl s2 ⟨l, H2, I2, pl, q2⟩ => thn (hu pins s2 σ H2 _ I2 q2) fun vu s3 zq64 => ?_)
  obtain ⟨u, H3, I3, pu, q3⟩ := zq64
  rw [evalPart_none]
  refine wpAny_pure ?_
  have I4 : Inv X pins σ H3 { s3 with heap := s3.heap.push { cls := .type "slice", data := .fields #[vl, vu, .none] } } := I3.kept (t' := s3.toks) fun b ob q => Heap.get?_push_of_some _ q
  obtain ⟨T, id, hT, ht, hg⟩ := hr pins { s3 with heap := s3.heap.push { cls := .type "slice", data := .fields #[vl, vu, .none] } } σ H3 x v vl vu l u s3.heap.objs.size Q I4 r1 (Heap.IsSliceOf.new ..) pl pu q3
  show wpAny (model X.prog X.w) X.A (subscriptTail e (.Slice lo hi none p2) v (.ref s3.heap.objs.size)) (EP X pins σ Q) X.xe { s3 with heap := s3.heap.push { cls := .type "slice", data := .fields #[vl, vu, .none] } }
  exact tail_any (ops := [.ref s3.heap.objs.size, v]) ht hT hg (by with_unfolding_all rfl)

noncomputable def cutV (xs : List V) (lo hi : Option Int) : List V := (xs.drop (HT.sIx xs.length 0 lo)).take (HT.sIx xs.length xs.length hi - HT.sIx xs.length 0 lo)
theorem cutV_length (xs : List V) (lo hi : Option Int) : (cutV xs lo hi).length ≤ xs.length := by
  unfold cutV
  rw [List.length_take, List.length_drop]
  omega
inductive rSlT (K : PySem.W.Frag) (x : V) (lo : Option Int) (hi : Option Int) (H : Hp) (Q : VK) : Prop
  | mk : ∀ a xs, (x = .ref a) → (SqT K H a xs) → (¬ (HT.sIx xs.length 0 lo = 0 ∧ HT.sIx xs.length xs.length hi = xs.length)) → (∀ p, H p = none → Q (.ref p) (upd H p (.tup (cutV xs lo hi)))) → rSlT K x lo hi H Q
theorem sl_tup : SlR X (rSlT X.K) := by
  intro pins s σ H x v vl vu lo hi sl Q I rx hs pl pu h
  obtain ⟨a, xs, rfl, hx, hw, q⟩ := h
  cases rx
  obtain ⟨its, r, ht, hz⟩ := I.tuple hx
  have hlen : its.toArray.size = xs.length := by rw [List.size_toArray]; exact r.length.symm
  refine ⟨"tuple", _, PyProof.Rows.slot_tuple_getitem.lookup, ht.typeIs, ?_⟩
  refine HT.getItem_tuple_cut ht hs pl pu (by rw [hlen]; exact hw) ?_ (by rw [hlen]; exact hz)
  rw [hlen]
  refine ⟨.ref s.heap.objs.size, _, I.laid (t' := s.toks) (o := .tup (cutV xs lo hi)) (fun b ob q => Heap.get?_push_of_some _ q) (Nat.le_refl _) ?_, rfl, q _ (I.hok.fresh (Nat.le_refl _))⟩
  exact ⟨Nat.le_trans (cutV_length xs lo hi) hz, _, (r.drop (HT.sIx xs.length 0 lo)).take (HT.sIx xs.length xs.length hi - HT.sIx xs.length 0 lo), IsTup.new _ _, .new _ _ rfl⟩

inductive rCatT (K : PySem.W.Frag) (x : V) (y : V) (H : Hp) (Q : VK) : Prop
  | mk : ∀ a b xs ys, (x = .ref a) → (y = .ref b) → (SqT K H a xs) → (SqT K H b ys) → (xs ≠ []) → (xs.length + ys.length ≤ sizeLine) → ((ys = [] → Q (.ref a) H)) → ((ys ≠ [] → ∀ p, H p = none → Q (.ref p) (upd H p (.tup (xs ++ ys))))) → rCatT K x y H Q
theorem Vals.nil_iff {xs : List V} {us : List Value} (r : Vals xs us) : us = [] ↔ xs = [] := by
  cases r with
  | nil => simp
  | cons _ _ => simp
theorem op_catT : OpR X (binaryOp .Add) (rCatT X.K) := by
  intro pins s σ H x y v u Q I rx ry h
  obtain ⟨a, b, xs, ys, rfl, rfl, ha, hb, hx, hz, q1, q2⟩ := h
  cases rx
  cases ry
  obtain ⟨its, r1, p1, _⟩ := I.tuple ha
  obtain ⟨its2, r2, p2, _⟩ := I.tuple hb
  refine HT.cat_tup p1 p2 (fun z => hx (r1.nil_iff.mp z)) (fun z => ⟨.ref a, H, I, rfl, q1 (r2.nil_iff.mp z)⟩) (fun z => ?_) (by rw [← r1.length, ← r2.length]; exact hz)
  refine ⟨.ref s.heap.objs.size, _, I.laid (t' := s.toks) (o := .tup (xs ++ ys)) (fun b ob q => Heap.get?_push_of_some _ q) (Nat.le_refl _) ?_, rfl, q2 (fun w => z (r2.nil_iff.mpr w)) _ (I.hok.fresh (Nat.le_refl _))⟩
  exact ⟨by rw [List.length_append]; exact hz, _, r1.append r2, IsTup.new _ _, .new _ _ rfl⟩
end
end L2

namespace L2
open PySem PySem.Spec PyProof.Rows

noncomputable def ixN (n : Nat) (i : Int) : Option Nat := if 0 ≤ i then (if i < n then some i.toNat else none) else if -(n : Int) ≤ i then some (i + n).toNat else none
noncomputable def atI {α : Type} (xs : List α) (i : Int) : Option α := (ixN xs.length i).bind fun j => xs[j]?
theorem ixN_seq {n : Nat} {i : Int} {j : Nat} (h : ixN n i = some j) : seqIndex? i n = some j ∧ j < n ∧ -(n : Int) ≤ i ∧ i < n := by
  unfold ixN at h
  by_cases h0 : 0 ≤ i
  · rw [if_pos h0] at h
    by_cases h1 : i < n
    · rw [if_pos h1] at h
      have e : i.toNat = j := Option.some.inj h
      exact ⟨by rw [seqIndex_of h0 h1, e], by omega, by omega, h1⟩
    · rw [if_neg h1] at h; cases h
  · rw [if_neg h0] at h
    by_cases h1 : -(n : Int) ≤ i
    · rw [if_pos h1] at h
      have e : (i + n).toNat = j := Option.some.inj h
      exact ⟨by rw [seqIndex_neg (by omega) h1, e], by omega, h1, by omega⟩
    · rw [if_neg h1] at h; cases h
theorem atI_get {α : Type} {xs : List α} {i : Int} {v : α} (h : atI xs i = some v) : ∃ j, seqIndex? i xs.length = some j ∧ xs[j]? = some v ∧ j < xs.length ∧ -(xs.length : Int) ≤ i ∧ i < xs.length := by
  unfold atI at h
  cases e : ixN xs.length i with
  | none => rw [e] at h; cases h
  | some j =>
    rw [e] at h
    obtain ⟨h1, h2, h3, h4⟩ := ixN_seq e
    exact ⟨j, h1, h, h2, h3, h4⟩
theorem atI_nat {α : Type} {xs : List α} {j : Nat} {v : α} (h : xs[j]? = some v) : atI xs (j : Int) = some v := by
  have hj : j < xs.length := (List.getElem?_eq_some_iff.mp h).1
  have e : ixN xs.length (j : Int) = some j := by
    unfold ixN
    rw [if_pos (by omega), if_pos (by omega)]; simp
  unfold atI; rw [e]; exact h
theorem atI_last {α : Type} (xs : List α) (v : α) : atI (xs ++ [v]) (-1) = some v := by
  have hl : (xs ++ [v]).length = xs.length + 1 := by simp
  have e : ixN (xs ++ [v]).length (-1) = some xs.length := by
    unfold ixN
    rw [hl, if_neg (by decide), if_pos (by omega)]
    congr 1
    omega
  unfold atI
  rw [e]
  show (xs ++ [v])[xs.length]? = some v
  simp

noncomputable def PlainIx (b : Expr) : Prop := ∀ o i, subscripted b false o i = operate [o, i] (getItem o i)
noncomputable def IxR (X : Cx) (r : R2) : Prop :=
  ∀ (value slice : Expr) (pins : List (Addr × Obj)) (s : Shared) (σ : St) (H : Hp) (x y : V) (v u : Value) (Q : VK), Inv X pins σ H s → RelV x v → RelV y u → r x y H Q →
    subscripted slice false v u = operate [v, u] (getItem v u) → wpAny (model X.prog X.w) X.A (subscriptTail value slice v u) (EP X pins σ Q) X.xe s
noncomputable def MtR (X : Cx) (id : String) (r : V → List V → Hp → VK → Prop) : Prop :=
  ∀ (pins : List (Addr × Obj)) (s : Shared) (σ : St) (H : Hp) (x : V) (xs : List V) (v : Value) (us : List Value) (Q : VK), Inv X pins σ H s → RelV x v → Vals xs us → r x xs H Q →
    wpAny (model X.prog X.w) X.A (call (.builtin id) (v :: us)) (EP X pins σ Q) X.xe s
section
variable {X : Cx} {a b : Expr} {ta tb : TE} {pos : Pos}
theorem pe_ix {r : R2} (hr : IxR X r) (ha : PE X a ta) (hb : PE X b tb) (hs : PlainIx b) : PE X (.Subscript a b pos) (tOp r ta tb) := by
  intro pins s σ H Q I h
  exact Subscript_ (binT ha hb I h fun v u s2 x y H2 I2 rx ry q => hr a b pins s2 σ H2 x y v u Q I2 rx ry q (hs _ _))

inductive rIxL (K : PySem.W.Frag) (x : V) (y : V) (H : Hp) (Q : VK) : Prop
  | mk : ∀ p xs i v, (x = .ref p) → (y = .int i) → (SqL K H p xs) → (atI xs i = some v) → (Q v H) → rIxL K x y H Q
inductive rIxT (K : PySem.W.Frag) (x : V) (y : V) (H : Hp) (Q : VK) : Prop
  | mk : ∀ p xs i v, (x = .ref p) → (y = .int i) → (SqT K H p xs) → (atI xs i = some v) → (Q v H) → rIxT K x y H Q
inductive rIxS (x : V) (y : V) (H : Hp) (Q : VK) : Prop
  | mk : ∀ z i c, (x = .str z) → (y = .int i) → (z.length ≤ sizeLine) → (atI z.cps.toList i = some c) → (Q (.str ⟨#[c]⟩) H) → rIxS x y H Q
theorem ix_list : IxR X (rIxL X.K) := by
  intro value slice pins s σ H x y v u Q I rx ry h hs
  obtain ⟨p, xs, i, z, rfl, rfl, hq, he, q⟩ := h
  cases rx
  obtain ⟨t, rfl⟩ := ry
  obtain ⟨its, r, pl, hz⟩ := I.list hq
  obtain ⟨j, h1, h2, h3, h4, h5⟩ := atI_get he
  obtain ⟨w, ew, rw'⟩ := r.get h2
  have hl := r.length
  have hn := line63
  have fin : EP X pins σ Q w s := ⟨z, H, I, rw', q⟩
  by_cases h0 : 0 ≤ i
  · have hj : i.toNat = j := by
      rw [seqIndex_of h0 h5] at h1
      exact Option.some.inj h1
    exact item_listR pl.isList h0 (by omega) (by rw [hj]; simpa using ew) fin hs
  · have hj : (i + (its.toArray.size : Int)).toNat = j := by
      rw [seqIndex_neg (by omega) h4] at h1
      rw [List.size_toArray, ← hl]
      exact Option.some.inj h1
    exact subscriptTail_builtinR (x := w) pl.isList.typeIs slot_list_getitem.lookup
      (wpAny_getItem_list_neg (Q := fun r s' => r = w ∧ EP X pins σ Q r s') pl.isList (by omega) (by rw [List.size_toArray] <;> omega) (by omega) (by rw [hj]; simpa using ew) ⟨rfl, fin⟩) hs
theorem ix_tup : IxR X (rIxT X.K) := by
  intro value slice pins s σ H x y v u Q I rx ry h hs
  obtain ⟨p, xs, i, z, rfl, rfl, hq, he, q⟩ := h
  cases rx
  obtain ⟨t, rfl⟩ := ry
  obtain ⟨its, r, pl, hz⟩ := I.tuple hq
  obtain ⟨j, h1, h2, h3, h4, h5⟩ := atI_get he
  obtain ⟨w, ew, rw'⟩ := r.get h2
  have hl := r.length
  have hn := line63
  have fin : EP X pins σ Q w s := ⟨z, H, I, rw', q⟩
  exact subscriptTail_builtinR (x := w) pl.typeIs slot_tuple_getitem.lookup
    (getItem_tuple (j := j) (Q := fun r s' => r = w ∧ EP X pins σ Q r s') pl (by omega) (by omega) (by rw [List.size_toArray, ← hl]; exact h1) (by simpa using ew) ⟨rfl, fin⟩) hs
theorem ix_str : IxR X rIxS := by
  intro value slice pins s σ H x y v u Q I rx ry h hs
  obtain ⟨z, i, c, rfl, rfl, hz, he, q⟩ := h
  obtain ⟨t, rfl⟩ := rx
  obtain ⟨t', rfl⟩ := ry
  obtain ⟨j, h1, h2, h3, h4, h5⟩ := atI_get he
  have hl : z.cps.toList.length = z.length := by simp [Str.length]
  rw [hl] at h1 h4 h5
  have hn := line63
  exact tail_any (typeIs_str s z t) slot_str_getitem.lookup (getItem_str (c := c) (by
    have e1 : decide (i < -(2 ^ 63 : Int)) = false := decide_eq_false (by omega)
    have e2 : decide (i ≥ 2 ^ 63) = false := decide_eq_false (by omega)
    rw [e1, e2, Bool.or_false]) (by rw [h1]; simpa using h2) ⟨.str ⟨#[c]⟩, H, I.tok _, ⟨_, rfl⟩, q⟩) hs

theorem Inv.lst {pins : List (Addr × Obj)} {σ : St} {H : Hp} {s : Shared} {p : Addr} {xs : List V} (I : Inv X pins σ H s) (h : H p = some (.lst xs)) :
    ∃ (its : List Value) (n : Nat), Vals xs its ∧ s.heap.get? p = some { cls := .type "list", data := .seq its.toArray n } ∧ xs.length ≤ sizeLine := by
  obtain ⟨z, its, n, r, e⟩ := I.hok p _ h
  exact ⟨its, n, r, e, z⟩

theorem slice_bounds (lo hi : Option Int) (n : Nat) : (sliceBounds lo hi none n).1 = ((HT.sIx n 0 lo : Nat) : Int) ∧ (sliceBounds lo hi none n).2.1 = ((HT.sIx n n hi : Nat) : Int) ∧ (sliceBounds lo hi none n).2.2 = 1 := by
  refine ⟨?_, ?_, rfl⟩
  · cases lo with
    | none => simp [sliceBounds, HT.sIx]
    | some i =>
      simp only [sliceBounds, HT.sIx, Option.getD_none, show (1 : Int) > 0 by decide, if_true]
      by_cases h : i < 0
      · simp only [h, if_true] <;> omega
      · simp only [h, if_false] <;> omega
  · cases hi with
    | none => simp [sliceBounds, HT.sIx]
    | some i =>
      simp only [sliceBounds, HT.sIx, Option.getD_none, show (1 : Int) > 0 by decide, if_true]
      by_cases h : i < 0
      · simp only [h, if_true] <;> omega
      · simp only [h, if_false] <;> omega
theorem slicePick_cut (its : List Value) (lo hi : Option Int) : slicePick its.toArray lo hi none = ((its.drop (HT.sIx its.length 0 lo)).take (HT.sIx its.length its.length hi - HT.sIx its.length 0 lo)).toArray := by
  obtain ⟨h1, h2, h3⟩ := slice_bounds lo hi its.toArray.size
  unfold slicePick
  rw [h1, h2, h3]
  simp only [sliceRange_one, pick_run, List.size_toArray] <;> rfl
inductive rSlL (K : PySem.W.Frag) (x : V) (lo : Option Int) (hi : Option Int) (H : Hp) (Q : VK) : Prop
  | mk : ∀ a xs, (x = .ref a) → (SqL K H a xs) → (∀ p, H p = none → Q (.ref p) (upd H p (.lst (cutV xs lo hi)))) → rSlL K x lo hi H Q
theorem sl_list : SlR X (rSlL X.K) := by
  intro pins s σ H x v vl vu lo hi sl Q I rx hs pl pu h
  obtain ⟨a, xs, rfl, hx, q⟩ := h
  cases rx
  obtain ⟨its, r, ht, hz⟩ := I.list hx
  have hlen := r.length
  refine ⟨"list", _, slot_list_getitem.lookup, ht.isList.typeIs, ?_⟩
  refine wpAny_getItem_list_slice ht.isList hs pl pu .none (by simp) ?_ (by rw [List.size_toArray] <;> omega)
  rw [slicePick_cut, ← hlen]
  refine ⟨.ref s.heap.objs.size, _, I.laid (t' := s.toks) (o := .lst (cutV xs lo hi)) (fun b ob q => Heap.get?_push_of_some _ q) (Nat.le_refl _) ?_, rfl, q _ (I.hok.fresh (Nat.le_refl _))⟩
  exact ⟨Nat.le_trans (cutV_length xs lo hi) hz, _, 0, (r.drop (HT.sIx xs.length 0 lo)).take (HT.sIx xs.length xs.length hi - HT.sIx xs.length 0 lo), Heap.get?_push_size _ rfl⟩

noncomputable def flatV : V → Bool
  | .non => true
  | .bl _ => true
  | .int _ => true
  | .str _ => true
  | _ => false
noncomputable def eqV : V → V → Bool
  | .non, .non => true
  | .bl a, .bl b => a == b
  | .bl a, .int b => (if a then 1 else 0) == b
  | .int a, .bl b => a == (if b then 1 else 0)
  | .int a, .int b => a == b
  | .str a, .str b => a == b
  | _, _ => false
theorem eqAt_V {A : Around} {s : Shared} {y x : V} {u v : Value} (ry : RelV y u) (rx : RelV x v) (fy : flatV y = true) (fx : flatV x = true) : SeqAt.EqAt A s u v (eqV y x) := by
  cases y with
  | non =>
    cases ry
    cases x with
    | non => cases rx; exact SeqAt.EqAt.same _
    | bl b => cases rx; exact SeqAt.EqAt.none_bool b
    | int b => obtain ⟨t, rfl⟩ := rx; exact SeqAt.EqAt.none_int b t
    | str b => obtain ⟨t, rfl⟩ := rx; exact SeqAt.EqAt.none_str b t
    | _ => exact absurd (show false = true from fx) Bool.false_ne_true
  | bl a =>
    cases ry
    cases x with
    | non => cases rx; exact SeqAt.EqAt.bool_none a
    | bl b => cases rx; exact SeqAt.EqAt.bool_bool a b
    | int b => obtain ⟨t, rfl⟩ := rx; exact SeqAt.EqAt.bool_int a b t
    | str b => obtain ⟨t, rfl⟩ := rx; exact SeqAt.EqAt.bool_str a b t
    | _ => exact absurd (show false = true from fx) Bool.false_ne_true
  | int a =>
    obtain ⟨t', rfl⟩ := ry
    cases x with
    | non => cases rx; exact SeqAt.EqAt.int_none a t'
    | bl b => cases rx; exact SeqAt.EqAt.int_bool a t' b
    | int b => obtain ⟨t, rfl⟩ := rx; exact SeqAt.EqAt.int_int a t' b t
    | str b => obtain ⟨t, rfl⟩ := rx; exact SeqAt.EqAt.int_str a t' b t
    | _ => exact absurd (show false = true from fx) Bool.false_ne_true
  | str a =>
    obtain ⟨t', rfl⟩ := ry
    cases x with
    | non => cases rx; exact SeqAt.EqAt.str_none a t'
    | bl b => cases rx; exact SeqAt.EqAt.str_bool a t' b
    | int b => obtain ⟨t, rfl⟩ := rx; exact SeqAt.EqAt.str_int a t' b t
    | str b => obtain ⟨t, rfl⟩ := rx; exact SeqAt.EqAt.str_str a t' b t
    | _ => exact absurd (show false = true from fx) Bool.false_ne_true
  | _ => exact absurd (show false = true from fy) Bool.false_ne_true
noncomputable def eqU (x : V) (u : Value) : Bool := match u with
  | .none => eqV .non x
  | .bool b => eqV (.bl b) x
  | .int i _ => eqV (.int i) x
  | .str z _ => eqV (.str z) x
  | _ => false
theorem eqU_of {x y : V} {u : Value} (r : RelV y u) (f : flatV y = true) : eqU x u = eqV y x := by
  cases y with
  | non => cases r; rfl
  | bl b => cases r; rfl
  | int i => obtain ⟨t, rfl⟩ := r; rfl
  | str z => obtain ⟨t, rfl⟩ := r; rfl
  | _ => exact absurd (show false = true from f) Bool.false_ne_true
theorem any_eqU {x : V} : ∀ {xs : List V} {us : List Value}, Vals xs us → xs.all flatV = true → us.any (eqU x) = xs.any fun y => eqV y x
  | _, _, .nil, _ => rfl
  | y :: xs, u :: us, .cons r t, f => by
    rw [List.all_cons, Bool.and_eq_true] at f
    rw [List.any_cons, List.any_cons, eqU_of r f.1, any_eqU t f.2]
theorem mem_eqAt {A : Around} {s : Shared} {x : V} {v : Value} (rx : RelV x v) (fx : flatV x = true) : ∀ {xs : List V} {us : List Value}, Vals xs us → xs.all flatV = true → ∀ u ∈ us, SeqAt.EqAt A s u v (eqU x u)
  | _, _, .nil, _ => fun u hu => by cases hu
  | y :: xs, u :: us, .cons r t, f => fun u' hu => by
    rw [List.all_cons, Bool.and_eq_true] at f
    rcases List.mem_cons.mp hu with rfl | hu
    · rw [eqU_of r f.1]; exact eqAt_V r rx f.1 fx
    · exact mem_eqAt rx fx t f.2 u' hu
noncomputable def inV (x : V) (xs : List V) : Bool := xs.any fun y => eqV y x
inductive rIn (K : PySem.W.Frag) (neg : Bool) (x : V) (y : V) (H : Hp) (Q : VK) : Prop
  | mk : ∀ p xs, (y = .ref p) → ((SqL K H p xs ∨ SqT K H p xs)) → (flatV x = true) → (xs.all flatV = true) → (Q (.bl (if neg then !inV x xs else inV x xs)) H) → rIn K neg x y H Q
theorem op_notIn_seq : OpR X (compareOp .NotIn) (rIn X.K true) := by
  intro pins s σ H x y v u Q I rx ry h
  obtain ⟨p, xs, rfl, hq, fx, fs, q⟩ := h
  cases ry
  rcases hq with hq | hq
  · obtain ⟨its, r, pl, hz⟩ := I.list hq
    refine SeqAt.notIn_listAt (eqU x) pl.isList (fun w hw => mem_eqAt rx fx r fs w (by simpa using hw)) ⟨.bl _, H, I, rfl, ?_⟩
    rw [show its.toArray.any (eqU x) = its.any (eqU x) by simp, any_eqU r fs]
    exact q
  · obtain ⟨its, r, pl, hz⟩ := I.tuple hq
    refine SeqAt.notIn_tupleAt (eqU x) pl (fun w hw => mem_eqAt rx fx r fs w (by simpa using hw)) ⟨.bl _, H, I, rfl, ?_⟩
    rw [show its.toArray.any (eqU x) = its.any (eqU x) by simp, any_eqU r fs]
    exact q

inductive call_len_seq_r (K : PySem.W.Frag) (xs : List V) (H : Hp) (Q : VK) : Prop
  | mk : ∀ p ys, (xs = [.ref p]) → ((SqL K H p ys ∨ SqT K H p ys)) → (Q (.int ys.length) H) → call_len_seq_r K xs H Q
theorem call_len_seq : CallR X (.builtin "len") (call_len_seq_r X.K) := by
  intro pins s σ H xs us Q I r h
  obtain ⟨p, ys, rfl, hq, q⟩ := h
  obtain ⟨u, rfl, rx⟩ := vals1 r
  cases rx
  have hn := line63
  rcases hq with hq | hq
  · obtain ⟨its, r', pl, hz⟩ := I.list hq
    have hlen := r'.length
    exact Calls.call_len_list pl.isList (by simp only [List.size_toArray] <;> omega) ⟨.int ys.length, H, I.tok _, ⟨s.toks + 1, by rw [List.size_toArray, hlen]⟩, q⟩
  · obtain ⟨its, r', pl, hz⟩ := I.tuple hq
    have hlen := r'.length
    exact len_tuple pl (by simp only [List.size_toArray] <;> omega) ⟨.int ys.length, H, I.tok _, ⟨s.toks + 1, by rw [List.size_toArray, hlen]⟩, q⟩
inductive call_len_str_r  (xs : List V) (H : Hp) (Q : VK) : Prop
  | mk : ∀ z, (xs = [.str z]) → (z.length ≤ sizeLine) → (Q (.int z.length) H) → call_len_str_r xs H Q
theorem call_len_str : CallR X (.builtin "len") call_len_str_r := by
  intro pins s σ H xs us Q I r h
  obtain ⟨z, rfl, hz, q⟩ := h
  obtain ⟨u, rfl, t, rfl⟩ := vals1 r
  have hn := line63
  exact len_str (by omega) ⟨.int z.length, H, I.tok _, ⟨_, rfl⟩, q⟩
inductive call_list_of_r (K : PySem.W.Frag) (xs : List V) (H : Hp) (Q : VK) : Prop
  | mk : ∀ p ys, (xs = [.ref p]) → ((SqL K H p ys ∨ SqT K H p ys)) → (∀ l, H l = none → Q (.ref l) (upd H l (.lst ys))) → call_list_of_r K xs H Q
theorem call_list_of : CallR X (.type "list") (call_list_of_r X.K) := by
  intro pins s σ H xs us Q I r h
  obtain ⟨p, ys, rfl, hq, q⟩ := h
  obtain ⟨u, rfl, rx⟩ := vals1 r
  cases rx
  have fin : ∀ (its : List Value), Vals ys its → ys.length ≤ sizeLine → ∀ (h' : Heap) (c' : Nat), (∀ b o', s.heap.get? b = some o' → h'.get? b = some o') →
      h'.get? s.heap.objs.size = some { cls := .type "list", dict := none, data := .seq its.toArray c', slots := #[] } → EP X pins σ Q (.ref s.heap.objs.size) { s with heap := h' } := fun its r' hz h' c' kp e =>
    ⟨.ref s.heap.objs.size, _, I.laid (t' := s.toks) kp (Nat.le_refl _) (show ObjOk X.prog X.w _ h' _ (.lst ys) from ⟨hz, its, c', r', e⟩), rfl, q _ (I.hok.fresh (Nat.le_refl _))⟩
  rcases hq with hq | hq
  · obtain ⟨its, r', pl, hz⟩ := I.list hq
    have hlen := r'.length
    obtain ⟨o, ho, hc, n, hd⟩ := pl.isList
    exact call_list_seq p (.inl rfl) ho hc hd (fun h' c' kp e => fin its r' hz h' c' kp e) (by simp only [List.size_toArray] <;> omega)
  · obtain ⟨its, r', pl, hz⟩ := I.tuple hq
    have hlen := r'.length
    obtain ⟨o, ho, hc, n, hd⟩ := pl
    exact call_list_seq p (.inr rfl) ho hc hd (fun h' c' kp e => fin its r' hz h' c' kp e) (by simp only [List.size_toArray] <;> omega)

noncomputable def tyV (K : PySem.W.Frag) (T : String) (x : V) (H : Hp) : Prop := match x with
  | .str _ => T = "str"
  | .int _ => T = "int"
  | .ref p => (T = "list" ∧ ∃ xs, SqL K H p xs) ∨ (T = "tuple" ∧ ((∃ o, K.lookup p = some o ∧ o.cls = .type "tuple" ∧ o.dict = none) ∨ ∃ xs, H p = some (.tup xs))) ∨
      (T = "dict" ∧ ((∃ kvs, H p = some (.dK kvs)) ∨ ∃ kvs, H p = some (.dT kvs))) ∨ (T = "set" ∧ ∃ S n, H p = some (.set S n))
  | _ => False
theorem tyV_is {pins : List (Addr × Obj)} {σ : St} {H : Hp} {s : Shared} {T : String} {x : V} {v : Value} (I : Inv X pins σ H s) (r : RelV x v) (ty : tyV X.K T x H) :
    s.TypeIs v T ∧ ∀ a, v = .ref a → ∃ ob, s.heap.get? a = some ob ∧ ob.dict = none := by
  cases x with
  | str z =>
    obtain ⟨t, rfl⟩ := r
    cases (show T = "str" from ty)
    exact ⟨typeIs_str s z t, fun _ e => nomatch e⟩
  | int i =>
    obtain ⟨t, rfl⟩ := r
    cases (show T = "int" from ty)
    exact ⟨typeIs_int s i t, fun _ e => nomatch e⟩
  | ref p =>
    cases r
    rcases ty with ⟨rfl, xs, hq⟩ | ⟨rfl, ⟨o, hk, hc, hd⟩ | ⟨xs, hk⟩⟩ | ⟨rfl, hk⟩ | ⟨rfl, S, n, hk⟩
    · obtain ⟨its, _, pl, _⟩ := I.list hq
      refine ⟨pl.isList.typeIs, fun a e => ?_⟩
      cases e
      obtain ⟨o, n, e, c, hd, _⟩ := pl
      exact ⟨o, e, hd⟩
    · refine ⟨⟨o, I.kIn p o hk, hc⟩, fun a e => ?_⟩
      cases e
      exact ⟨o, I.kIn _ o hk, hd⟩
    · obtain ⟨_, _, _, ⟨o, e, hc, _⟩, hn⟩ := I.hok p _ hk
      refine ⟨⟨o, e, hc⟩, fun a e => ?_⟩
      cases e
      exact hn
    · have z : ∃ o, s.heap.get? p = some o ∧ o.ExactDict := by
        rcases hk with ⟨kvs, hk⟩ | ⟨kvs, hk⟩
        · obtain ⟨_, _, _, _, o, _, _, e, ex, _⟩ := I.hok p _ hk
          exact ⟨o, e, ex⟩
        · obtain ⟨_, _, _, _, o, _, _, e, ex, _⟩ := I.hok p _ hk
          exact ⟨o, e, ex⟩
      obtain ⟨o, e, ex⟩ := z
      refine ⟨⟨o, e, ex.1⟩, fun a e2 => ?_⟩
      cases e2
      exact ⟨o, e, ex.2.1⟩
    · obtain ⟨o, _, _, _, e, ex, _⟩ := I.hok p _ hk
      refine ⟨⟨o, e, ex.1⟩, fun a e2 => ?_⟩
      cases e2
      exact ⟨o, e, ex.2.1⟩
  | _ => exact False.elim ty
noncomputable def tBM0_k1 (K : PySem.W.Frag) (T : String) (r : V → List V → Hp → VK → Prop) (Q : VK) : V → Hp → Prop := fun x H1 => tyV K T x H1 ∧ r x [] H1 Q
noncomputable def tBM0 (K : PySem.W.Frag) (T : String) (r : V → List V → Hp → VK → Prop) (to : TE) : TE := fun σ H Q => to σ H (tBM0_k1 K T r Q)
noncomputable def tBM_k1 (r : V → List V → Hp → VK → Prop) (Q : VK) (x : V) : List V → Hp → Prop := fun xs H2 => r x xs H2 Q
noncomputable def tBM_k2 (K : PySem.W.Frag) (T : String) (r : V → List V → Hp → VK → Prop) (t : TA) (σ : St) (Q : VK) : V → Hp → Prop := fun x H1 => tyV K T x H1 ∧ t σ H1 (tBM_k1 r Q x)
noncomputable def tBM (K : PySem.W.Frag) (T : String) (r : V → List V → Hp → VK → Prop) (to : TE) (t : TA) : TE := fun σ H Q => to σ H (tBM_k2 K T r t σ Q)
variable {o e : Expr} {es : List Expr} {to : TE} {t : TA} {name : Str} {apos cpos : Pos} {T id : String} {r : V → List V → Hp → VK → Prop}
theorem pe_bm0 (pa : PlainAttrs T) (slot : Slot T name id) (hty : typeOf (.builtin id) = pure (.type "method_descriptor")) (hm : MtR X id r) (ho : PE X o to)
    (hbase : attributeBase o name X.env (eval o X.env) = eval o X.env := by rfl) (hline : (apos.endLine == cpos.line) = true := by rfl) : PE X (.Call (.Attribute o name apos) [] [] cpos) (tBM0 X.K T r to) := by
  intro pins s σ H Q I h
  refine wpAny_Call_method0_late hbase hline (thn (ho pins s σ H _ I h) fun v s1 zq65 => ?_)
  obtain ⟨x, H1, I1, r1, ty, q1⟩ := zq65
  obtain ⟨h1, h2⟩ := tyV_is I1 r1 ty
  exact ⟨T, id, pa, slot, hty, h1, h2, Calls.callWith_builtin rfl (PySem.evalArgs_none (hm pins s1 σ H1 x [] v [] Q I1 r1 .nil q1))⟩
theorem pe_bm (pa : PlainAttrs T) (slot : Slot T name id) (hty : typeOf (.builtin id) = pure (.type "method_descriptor")) (hm : MtR X id r) (ho : PE X o to) (ha : PA X (e :: es) t)
    (hbase : attributeBase o name X.env (eval o X.env) = eval o X.env := by rfl)
    (hfew : ((backTo cpos (starEach (e :: es) X.env)).all (fun x => !x.1) && (backToKw cpos (keywordEach [] X.env)).all (fun x => x.1.isSome)
      && decide ((e :: es).length + ([] : List Keyword).length + (if ([] : List Keyword).isEmpty then 0 else 1) < 30)) = true := by rfl)
    (hline : (apos.endLine == cpos.line) = true := by rfl) (hs : starEach (e :: es) X.env = (false, eval e X.env) :: starEach es X.env := by rfl) (hplain : (backTo cpos (starEach es X.env)).any (·.1) = false := by rfl) :
    PE X (.Call (.Attribute o name apos) (e :: es) [] cpos) (tBM X.K T r to t) := by
  intro pins s σ H Q I h
  refine wpAny_Call_method_late hbase hfew hline rfl (thn (ho pins s σ H _ I h) fun v s1 zq66 => ?_)
  obtain ⟨x, H1, I1, r1, ty, q1⟩ := zq66
  obtain ⟨h1, h2⟩ := tyV_is I1 r1 ty
  refine ⟨T, id, pa, slot, hty, h1, h2, ?_⟩
  have hA := ha cpos pins s1 σ H1 _ I1 q1
  rw [hs] at hA ⊢
  refine Calls.callWith_builtin (by show (false || (backTo cpos (starEach es X.env)).any (·.1)) = false; rw [hplain] <;> rfl) (Calls.evalArgs_plain ?_)
  exact thn hA fun us s2 zq67 => (by obtain ⟨vs, H2, I2, r2, q2⟩ := zq67; exact hm pins s2 σ H2 x vs v us Q I2 r1 r2 q2)
/- xs.append(e), list.index on a module's tuple .. are MtR facts of 06m -/
end
end L2

namespace L2
open PySem PySem.Spec PyProof.Rows

noncomputable def MtM (X : Cx) (id : String) (r : V → List V → Hp → VK → Prop) : Prop :=
  ∀ (pins : List (Addr × Obj)) (s : Shared) (σ : St) (H : Hp) (x : V) (xs : List V) (v : Value) (us : List Value) (Q : VK), Inv X pins σ H s → RelV x v → Vals xs us → r x xs H Q →
    wpAny (model X.prog X.w) X.A (call (.builtin id) (v :: us)) (EP X pins σ Q) X.xe s

theorem Vals.one : ∀ {x : V} {us : List Value}, Vals [x] us → ∃ u, us = [u] ∧ RelV x u
  | _, _, .cons r .nil => ⟨_, rfl, r⟩
theorem Vals.zero : ∀ {us : List Value}, Vals [] us → us = []
  | _, .nil => rfl
theorem Vals.dropLast {xs : List V} {us : List Value} (h : Vals xs us) : Vals xs.dropLast us.dropLast := by
  induction h with
  | nil => exact .nil
  | cons r t ih =>
    cases t with
    | nil => exact .nil
    | cons q t' => exact .cons r ih
theorem Vals.reverse {xs : List V} {us : List Value} (h : Vals xs us) : Vals xs.reverse us.reverse := by
  induction h with
  | nil => exact .nil
  | cons r t ih => rw [List.reverse_cons, List.reverse_cons]; exact Vals.append ih (.cons r .nil)
theorem Vals.rep {xs : List V} {us : List Value} (h : Vals xs us) : ∀ k : Nat, Vals (List.replicate k xs).flatten (List.replicate k us).flatten
  | 0 => .nil
  | k + 1 => by
    rw [List.replicate_succ, List.replicate_succ, List.flatten_cons, List.flatten_cons]
    exact Vals.append h (Vals.rep h k)
theorem erase_last {α : Type} (l : List α) : l.eraseIdx (l.length - 1) = l.dropLast := by
  induction l with
  | nil => rfl
  | cons a r ih =>
    cases r with
    | nil => rfl
    | cons b r =>
      have e : (a :: b :: r).length - 1 = ((b :: r).length - 1) + 1 := by
        have h1 : (a :: b :: r).length = r.length + 2 := rfl
        have h2 : (b :: r).length = r.length + 1 := rfl
        omega
      rw [e, List.eraseIdx_cons_succ, ih]
      all_goals rfl
theorem foldl_rep (its : List Value) : ∀ (k : Nat) (acc : List Value),
    List.foldl (fun x1 x2 => x1 ++ x2) acc.toArray (List.replicate k its.toArray) = (acc ++ (List.replicate k its).flatten).toArray
  | 0, acc => by simp
  | k + 1, acc => by
    have e : acc.toArray ++ its.toArray = (acc ++ its).toArray := by simp
    have e2 : (acc ++ its) ++ (List.replicate k its).flatten = acc ++ (List.replicate (k + 1) its).flatten := by
      rw [List.replicate_succ, List.flatten_cons, List.append_assoc]
    rw [← e2, ← foldl_rep its k (acc ++ its), ← e, List.replicate_succ, List.foldl_cons]

section
variable {X : Cx} {pins : List (Addr × Obj)} {σ : St} {H : Hp} {s : Shared} {l b : Addr} {xs ys zs : List V}

theorem Inv.lset {its its' : List Value} {n : Nat} {f : Array Value → Array Value} {t' : Nat} (I : Inv X pins σ H s) (hH : H l = some (.lst xs))
    (e : s.heap.get? l = some { cls := .type "list", data := .seq its.toArray n }) (hf : f its.toArray = its'.toArray) (hv : Vals ys its') (hz : ys.length ≤ sizeLine) :
    Inv X pins σ (upd H l (.lst ys)) { s with heap := s.heap.update l (Obj.mapSeq f), toks := t' } := by
  have q := PySem.IsL.update e f
  rw [hf] at q
  refine I.write (x := l) (e := l) (by rw [hH]; exact trivial) (.inl rfl) (fun b' u hb hu => (Heap.get?_update_other s.heap (Obj.mapSeq f) (Ne.symm hb)).trans hu) ⟨_, q⟩ ?_
  exact ⟨hz, its', _, hv, q⟩
theorem Inv.lnew {its : List Value} {t' : Nat} (I : Inv X pins σ H s) (hv : Vals ys its) (hz : ys.length ≤ sizeLine) :
    Inv X pins σ (upd H s.heap.objs.size (.lst ys)) { s with heap := s.heap.push { cls := .type "list", data := .seq its.toArray }, toks := t' } :=
  I.laid (fun _ _ q => Heap.get?_push_of_some _ q) (Nat.le_refl _) ⟨hz, its, 0, hv, Heap.get?_push_size _ rfl⟩
theorem Inv.fresh (I : Inv X pins σ H s) : H s.heap.objs.size = none := I.hok.fresh (Nat.le_refl _)
theorem Inv.lstM (I : Inv X pins σ H s) (hH : H l = some (.lst xs)) : xs.length ≤ sizeLine ∧ ∃ (its : List Value) (n : Nat), Vals xs its ∧ xs.length = its.length ∧ s.heap.get? l = some { cls := .type "list", data := .seq its.toArray n } := by
  obtain ⟨z, its, n, r, e⟩ := I.hok l _ hH
  exact ⟨z, its, n, r, r.length, e⟩

theorem notLongL {n : Nat} (h : n ≤ sizeLine) : Builtin.List.listTooLong n = false := by
  unfold Builtin.List.listTooLong
  exact decide_eq_false (by omega)
end

section
variable {X : Cx}

inductive rAppend (x : V) (vs : List V) (H : Hp) (Q : VK) : Prop
  | mk : ∀ l xs y, (x = .ref l) → (vs = [y]) → (H l = some (.lst xs)) → (xs.length < sizeLine) → (Q .non (upd H l (.lst (xs ++ [y])))) → rAppend x vs H Q
theorem mt_append : MtM X "list.append" rAppend := by
  intro pins s σ H x vs v us Q I rx rv h
  obtain ⟨l, xs, y, rfl, rfl, hH, hz, q⟩ := h
  cases rx
  obtain ⟨u, rfl, ru⟩ := rv.one
  obtain ⟨z, its, n, r, hl, e⟩ := I.lstM hH
  refine call_meets F.slot_list_append ⟨_, e, rfl⟩ F.entry_list_append (F.args_list_append_2 _ _) (PySem.list_append l its.toArray n u (by rw [List.size_toArray]; omega)) ⟨e, ?_⟩
  refine ⟨.non, _, I.lset (its' := its ++ [u]) hH e (by simp) (r.append (.cons ru .nil)) ?_, rfl, q⟩
  rw [List.length_append, List.length_singleton]
  omega


inductive rPop (x : V) (vs : List V) (H : Hp) (Q : VK) : Prop
  | mk : ∀ l xs y, (x = .ref l) → (vs = []) → (H l = some (.lst xs)) → (xs[xs.length - 1]? = some y) → (Q y (upd H l (.lst xs.dropLast))) → rPop x vs H Q
theorem mt_pop : MtM X "list.pop" rPop := by
  intro pins s σ H x vs v us Q I rx rv h
  obtain ⟨l, xs, y, rfl, rfl, hH, hy, q⟩ := h
  cases rx
  have hus := rv.zero
  subst hus
  obtain ⟨z, its, n, r, hl, e⟩ := I.lstM hH
  obtain ⟨u, hu, ru⟩ := r.get hy
  have hy' : its.toArray[its.toArray.size - 1]? = some u := by
    show its.toArray[its.length - 1]? = some u
    rw [← Array.getElem?_toList, ← hl]
    exact hu
  refine call_meets F.slot_list_pop ⟨_, e, rfl⟩ F.entry_list_pop (F.args_list_pop_1 _) (MeetsSeq.list_pop_last l its.toArray n u hy' (by rw [List.size_toArray]; omega)) ⟨e, ?_⟩
  refine ⟨y, _, I.lset (its' := its.dropLast) hH e ?_ r.dropLast ?_, ru, q⟩
  · show its.toArray.eraseIdxIfInBounds (its.toArray.size - 1) = its.dropLast.toArray
    rw [List.size_toArray, List.eraseIdxIfInBounds_toArray, erase_last]
  · rw [List.length_dropLast]
    omega




inductive rCat (x : V) (y : V) (H : Hp) (Q : VK) : Prop
  | mk : ∀ l b xs zs, (x = .ref l) → (y = .ref b) → (H l = some (.lst xs)) → (H b = some (.lst zs)) → (xs.length + zs.length ≤ sizeLine) → (∀ p, H p = none → Q (.ref p) (upd H p (.lst (xs ++ zs)))) → rCat x y H Q
theorem op_cat : OpR X (binaryOp .Add) rCat := by
  intro pins s σ H x y v u Q I rx ry h
  obtain ⟨l, b, xs, zs, rfl, rfl, hH, hB, hz, q⟩ := h
  cases rx
  cases ry
  obtain ⟨z, its, n, r, hl, e⟩ := I.lstM hH
  obtain ⟨z2, its2, n2, r2, hl2, e2⟩ := I.lstM hB
  refine PySem.P.add_list e e2 ?_ (by rw [List.size_toArray, List.size_toArray]; omega)
  have ea : its.toArray ++ its2.toArray = (its ++ its2).toArray := by simp
  rw [ea]
  exact ⟨.ref _, _, I.lnew (t' := s.toks) (r.append r2) (by rw [List.length_append]; omega), rfl, q _ I.fresh⟩
inductive rRep (x : V) (y : V) (H : Hp) (Q : VK) : Prop
  | mk : ∀ l k xs, (x = .ref l) → (y = .int k) → (H l = some (.lst xs)) → (-(2 ^ 63) ≤ k) → (k < 2 ^ 63) → (xs.length * k.toNat ≤ sizeLine) → (∀ p, H p = none → Q (.ref p) (upd H p (.lst (List.replicate k.toNat xs).flatten))) → rRep x y H Q
theorem len_rep {α : Type} (xs : List α) (k : Nat) : (List.replicate k xs).flatten.length = k * xs.length := by
  induction k with
  | zero => simp
  | succ k ih => rw [List.replicate_succ, List.flatten_cons, List.length_append, ih, Nat.succ_mul, Nat.add_comm]
theorem op_rep : OpR X (binaryOp .Mult) rRep := by
  intro pins s σ H x y v u Q I rx ry h
  obtain ⟨l, k, xs, rfl, rfl, hH, h1, h2, hz, q⟩ := h
  cases rx
  obtain ⟨t, rfl⟩ := ry
  obtain ⟨z, its, n, r, hl, e⟩ := I.lstM hH
  have hlen : its.toArray.size * k.toNat ≤ sizeLine := by rw [List.size_toArray, ← hl]; exact hz
  have hcap : ¬ its.toArray.size * k.toNat > (2 ^ 63 - 1) / 8 := by
    have : (sizeLine : Nat) ≤ (2 ^ 63 - 1) / 8 := by decide
    omega
  have hfit : ¬ (!Builtin.List.listFitsIndex k) = true := by
    rw [fitsIndex_both h1 h2]
    exact Bool.false_ne_true
  have hlong : ¬ Builtin.List.listTooLong (its.toArray.size * k.toNat) = true := by
    rw [notLongL hlen]
    exact Bool.false_ne_true
  have hnew : List.foldl (fun x1 x2 => x1 ++ x2) #[] (List.replicate (if its.toArray.isEmpty = true then 0 else k.toNat) its.toArray) = (List.replicate k.toNat its).flatten.toArray := by
    have f0 : ∀ m : Nat, List.foldl (fun x1 x2 => x1 ++ x2) #[] (List.replicate m its.toArray) = (List.replicate m its).flatten.toArray := fun m => by
      have := foldl_rep its m []
      rw [List.nil_append] at this
      exact this
    rw [f0]
    cases its with
    | nil => simp
    | cons a r' => rw [if_neg (by simp)]
  refine wpAny_binaryOp_repeat_ref (T := "list") (U := "int") (by decide) ⟨_, e, rfl⟩ (fun s' => typeIs_int s' k t) noFill_list_mul F.fills_int_mul F.slot_int_rmul repeat_list F.slot_int_index.lookup
    (call_meets F.slot_int_rmul (typeIs_int s k t) F.entry_int_rmul (F.args_int_rmul_2 _ _) (int___rmul___int_list k t l its.toArray n)
      ⟨e, rfl, ⟨_, e, rfl⟩, call_meets F.slot_list_mul ⟨_, e, rfl⟩ F.entry_list_mul (F.args_list_mul_2 _ _) (AutoListH.list___mul___list_int_3 l its.toArray n k t hfit hcap hlong) ⟨e, ?_⟩⟩)
  rw [hnew]
  exact ⟨.ref _, _, I.lnew (t' := s.toks) (r.rep k.toNat) (by rw [len_rep, Nat.mul_comm]; exact hz), rfl, q _ I.fresh⟩

end

section
variable {prog : Program} {w : World} {A : Around} {E : Value → Shared → Prop} {s : Shared}
end

section
variable {X : Cx}
end
end L2

namespace L2
open PySem PySem.Spec PyProof.Rows

section
variable {κ : Type} [DecidableEq κ]
noncomputable def valV (kvs : List (κ × V)) (k : κ) : Option V := (kvs.find? fun kv => decide (kv.1 = k)).map (·.2)
noncomputable def putK (kvs : List (κ × V)) (k : κ) (v : V) : List (κ × V) :=
  if (kvs.any fun kv => decide (kv.1 = k)) = true then kvs.map (fun kv => if kv.1 = k then (kv.1, v) else kv) else kvs ++ [(k, v)]

theorem valV_pos {p : κ × V} {r : List (κ × V)} {k : κ} (e : p.1 = k) : valV (p :: r) k = some p.2 := by simp [valV, List.find?_cons, e]
theorem valV_neg {p : κ × V} {r : List (κ × V)} {k : κ} (e : ¬ p.1 = k) : valV (p :: r) k = valV r k := by simp [valV, List.find?_cons, e]
theorem valV_any (k : κ) : ∀ kvs : List (κ × V), (kvs.any fun kv => decide (kv.1 = k)) = (valV kvs k).isSome
  | [] => rfl
  | p :: r => by
    rw [List.any_cons]
    by_cases e : p.1 = k
    · simp only [valV_pos e, decide_eq_true e, Bool.true_or, Option.isSome_some]
    · rw [valV_neg e, decide_eq_false e, Bool.false_or]; exact valV_any k r
theorem length_putK (kvs : List (κ × V)) (k : κ) (v : V) : (putK kvs k v).length ≤ kvs.length + 1 := by
  unfold putK
  split
  · rw [List.length_map]; omega
  · rw [List.length_append, List.length_cons, List.length_nil]; omega

theorem RelO.isSome_eq {o : Option V} {u : Option Value} (r : RelO o u) : o.isSome = u.isSome := by
  cases o with
  | none => cases u with
    | none => rfl
    | some _ => exact (show False from r).elim
  | some _ => cases u with
    | none => exact (show False from r).elim
    | some _ => rfl

theorem KV.val {kvs : List (κ × V)} {vs : List (κ × Value)} (r : KV kvs vs) (k : κ) : RelO (valV kvs k) (valueAt vs k) := by
  unfold KV at r
  induction r with
  | nil => exact True.intro
  | @cons p q ps qs h t ih =>
    obtain ⟨h1, h2⟩ := h
    by_cases e : p.1 = k
    · have e' : q.1 = k := h1.symm.trans e
      have b : valueAt (q :: qs) k = some q.2 := by simp [valueAt, List.find?_cons, e']
      rw [valV_pos e, b]; exact h2
    · have e' : ¬ q.1 = k := fun z => e (h1.trans z)
      have b : valueAt (q :: qs) k = valueAt qs k := by simp [valueAt, List.find?_cons, e']
      rw [valV_neg e, b]; exact ih
theorem KV.any {kvs : List (κ × V)} {vs : List (κ × Value)} (r : KV kvs vs) (k : κ) : (kvs.any fun kv => decide (kv.1 = k)) = vs.any fun kv => decide (kv.1 = k) := by
  unfold KV at r
  induction r with
  | nil => rfl
  | cons h t ih => rw [List.any_cons, List.any_cons, ih, h.1]
theorem KV.repl {kvs : List (κ × V)} {vs : List (κ × Value)} (r : KV kvs vs) (k : κ) {y : V} {u : Value} (ry : RelV y u) :
    KV (kvs.map fun kv => if kv.1 = k then (kv.1, y) else kv) (vs.map fun kv => if kv.1 = k then (kv.1, u) else kv) := by
  unfold KV at r ⊢
  induction r with
  | nil => exact .nil
  | @cons p q ps qs h t ih =>
    rw [List.map_cons, List.map_cons]
    refine .cons ?_ ih
    obtain ⟨h1, h2⟩ := h
    by_cases e : p.1 = k
    · rw [if_pos e, if_pos (h1.symm.trans e)]; exact ⟨h1, ry⟩
    · rw [if_neg e, if_neg (fun z => e (h1.trans z))]; exact ⟨h1, h2⟩
theorem KV.put {kvs : List (κ × V)} {vs : List (κ × Value)} (r : KV kvs vs) (k : κ) {y : V} {u : Value} (ry : RelV y u) : KV (putK kvs k y) (stored vs k u) := by
  unfold putK stored
  rw [r.any k]
  by_cases e : (vs.any fun kv => decide (kv.1 = k)) = true
  · rw [if_pos e, if_pos e]; exact r.repl k ry
  · rw [if_neg e, if_neg e]; exact Paired.snoc r ⟨rfl, ry⟩
theorem KV.length {kvs : List (κ × V)} {vs : List (κ × Value)} (r : KV kvs vs) : kvs.length = vs.length := Paired.length r
end


theorem kV_is {P : Program} {w : World} {k : Key} {u : Value} (r : RelV (kV k) u) : (mixKind P w).is k u = true := by
  cases k with
  | inl i => obtain ⟨t, e⟩ := (show ∃ t, u = Value.int i t from r); subst e; exact mixKind_int P w i t
  | inr x => obtain ⟨t, e⟩ := (show ∃ t, u = Value.str x t from r); subst e; exact mixKind_str P w x t
theorem items_are {P : Program} {w : World} : ∀ {ks : List Key} {us : List Value}, Vals (ks.map kV) us → ItemsAre (mixKind P w) ks us
  | [], _, r => by rw [List.map_nil] at r; cases r; exact .nil
  | k :: ks, _, r => by
    rw [List.map_cons] at r
    cases r with
    | cons h t => exact .cons (kV_is h) (items_are t)

noncomputable abbrev KT (H : Hp) : List (List Key × V) → List (List Key × Addr × Value) → Prop := Paired fun p q => p.1 = q.1 ∧ H q.2.1 = some (.tup (p.1.map kV)) ∧ RelV p.2 q.2.2
theorem KT.val {H : Hp} {kvs : List (List Key × V)} {xs : List (List Key × Addr × Value)} (r : KT H kvs xs) (k : List Key) : RelO (valV kvs k) ((atKey xs k).map (·.2)) := by
  induction r with
  | nil => exact True.intro
  | @cons p q ps qs h t ih =>
    obtain ⟨h1, _, h2⟩ := h
    by_cases e : p.1 = k
    · have e' : q.1 = k := h1.symm.trans e
      have b : atKey (q :: qs) k = some q.2 := by simp [atKey, List.find?_cons, e']
      rw [valV_pos e, b]; exact h2
    · have e' : ¬ q.1 = k := fun z => e (h1.trans z)
      have b : atKey (q :: qs) k = atKey qs k := by simp [atKey, List.find?_cons, e']
      rw [valV_neg e, b]; exact ih
theorem KT.repl {H : Hp} {kvs : List (List Key × V)} {xs : List (List Key × Addr × Value)} (r : KT H kvs xs) (k : List Key) {y : V} {u : Value} (ry : RelV y u) :
    KT H (kvs.map fun kv => if kv.1 = k then (kv.1, y) else kv) (xs.map (putAt k u)) := by
  induction r with
  | nil => exact .nil
  | @cons p q ps qs h t ih =>
    rw [List.map_cons, List.map_cons]
    refine .cons ?_ ih
    obtain ⟨h1, h2, h3⟩ := h
    unfold putAt
    by_cases e : p.1 = k
    · rw [if_pos e, if_pos (h1.symm.trans e)]; exact ⟨h1, h2, ry⟩
    · rw [if_neg e, if_neg (fun z => e (h1.trans z))]; exact ⟨h1, h2, h3⟩
theorem KT.put {H : Hp} {kvs : List (List Key × V)} {xs : List (List Key × Addr × Value)} (r : KT H kvs xs) (k : List Key) {b : Addr} {y : V} {u : Value} (hb : H b = some (.tup (k.map kV))) (ry : RelV y u) :
    KT H (putK kvs k y) (storedH xs k b u) := by
  have e : (kvs.any fun kv => decide (kv.1 = k)) = (atKey xs k).isSome := by
    rw [valV_any, (r.val k).isSome_eq, Option.isSome_map]
  unfold putK storedH
  rw [e]
  by_cases q : (atKey xs k).isSome = true
  · rw [if_pos q, if_pos q]; exact r.repl k ry
  · rw [if_neg q, if_neg q]; exact Paired.snoc r ⟨rfl, hb, ry⟩
theorem KT.keeps {H H' : Hp} {kvs : List (List Key × V)} {xs : List (List Key × Addr × Value)} (r : KT H kvs xs) (ht : ∀ b ys, H b = some (.tup ys) → H' b = some (.tup ys)) : KT H' kvs xs :=
  Paired.mapP r fun _ _ z => ⟨z.1, ht _ _ z.2.1, z.2.2⟩

section
variable {P : Program} {w : World} {H : Hp} {h : Heap} {a : Addr}
theorem rd_of {u : HO} (ok : HOk P w H h) (e : Rd H a u) : ObjOk P w H h a u := e.ok ok
theorem dk_rd {kvs : List (Key × V)} (ok : HOk P w H h) (e : Rd H a (.dK kvs)) : kvs.length ≤ sizeLine ∧ (a == sysModules) = false ∧ ∃ vs, KV kvs vs ∧ h.DictOf (mixKind P w) a vs :=
  show ObjOk P w H h a (.dK kvs) from rd_of ok e
theorem dk_of {kvs : List (Key × V)} (ok : HOk P w H h) (e : H a = some (.dK kvs)) : kvs.length ≤ sizeLine ∧ (a == sysModules) = false ∧ ∃ vs, KV kvs vs ∧ h.DictOf (mixKind P w) a vs := dk_rd ok (.inl e)
theorem key_of {ks : List Key} (ok : HOk P w H h) (e : H a = some (.tup (ks.map kV))) : (tupleKind (mixKind P w)).is h ks a := by
  obtain ⟨_, its, r, ⟨o, h1, h2, n, h3⟩, _⟩ := (show ObjOk P w H h a (.tup (ks.map kV)) from ok a _ e)
  exact ⟨o, its.toArray, n, h1, h2, h3, by simpa using items_are r⟩
theorem dt_rd {kvs : List (List Key × V)} (ok : HOk P w H h) (e : Rd H a (.dT kvs)) : kvs.length ≤ sizeLine ∧ (a == sysModules) = false ∧
    ∃ xs, KT H kvs xs ∧ h.DictOfH (tupleKind (mixKind P w)) a xs := by
  obtain ⟨z, y, xs, r, o, es, ep, h1, h2, h3, h4, h5⟩ := (show ObjOk P w H h a (.dT kvs) from rd_of ok e)
  refine ⟨z, y, xs, r, o, es, ep, h1, h2, h3, h4, fun x hx => ?_, h5⟩
  have all : ∀ {l : List (List Key × V)} {m : List (List Key × Addr × Value)}, KT H l m → ∀ x ∈ m, (tupleKind (mixKind P w)).is h x.1 x.2.1 := by
    intro l m q
    induction q with
    | nil => intro x hx; exact nomatch hx
    | @cons p q ps qs hq t ih =>
      intro x hx
      rcases List.mem_cons.mp hx with e | hx
      · subst e
        exact key_of ok (by rw [← hq.1]; exact hq.2.1)
      · exact ih x hx
  exact all r x hx
theorem dt_of {kvs : List (List Key × V)} (ok : HOk P w H h) (e : H a = some (.dT kvs)) : kvs.length ≤ sizeLine ∧ (a == sysModules) = false ∧
    ∃ xs, KT H kvs xs ∧ h.DictOfH (tupleKind (mixKind P w)) a xs := dt_rd ok (.inl e)
end

noncomputable def DGet (H : Hp) (a : Addr) (y : V) (r : Option V) : Prop :=
  (∃ kvs k, Rd H a (.dK kvs) ∧ y = kV k ∧ r = valV kvs k) ∨ ∃ kvs k b, Rd H a (.dT kvs) ∧ y = .ref b ∧ H b = some (.tup (k.map kV)) ∧ r = valV kvs k
noncomputable def DPut (H : Hp) (a : Addr) (y v : V) (H' : Hp) : Prop :=
  (∃ kvs k, H a = some (.dK kvs) ∧ y = kV k ∧ kvs.length < sizeLine ∧ H' = upd H a (.dK (putK kvs k v))) ∨
  ∃ kvs k b, H a = some (.dT kvs) ∧ y = .ref b ∧ H b = some (.tup (k.map kV)) ∧ kvs.length < sizeLine ∧ H' = upd H a (.dT (putK kvs k v))
theorem DGet.k {H : Hp} {a : Addr} {kvs : List (Key × V)} {k : Key} (e : H a = some (.dK kvs)) : DGet H a (kV k) (valV kvs k) := .inl ⟨kvs, k, .inl e, rfl, rfl⟩
theorem DPut.k {H : Hp} {a : Addr} {kvs : List (Key × V)} {k : Key} {v : V} (e : H a = some (.dK kvs)) (hl : kvs.length < sizeLine) : DPut H a (kV k) v (upd H a (.dK (putK kvs k v))) := .inl ⟨kvs, k, e, rfl, hl, rfl⟩


section
variable {X : Cx} {pins : List (Addr × Obj)} {σ : St} {H : Hp} {s : Shared} {a : Addr} {y v : V} {u r : Value} {o : Option V} {A : Around} {E : Value → Shared → Prop}

theorem Inv.big (I : Inv X pins σ H s) : sysModules < s.heap.objs.size := by
  have h : mainGlobals < s.heap.objs.size := (I.mod.glob.keeps I.bk).lt
  exact Nat.lt_trans (by decide) h

theorem d_getItem {Q : Value → Shared → Prop} (hu : A.units + 1 < cLine) (I : Inv X pins σ H s) (g : DGet H a y (some v)) (ry : RelV y u) (h : ∀ w' s', Inv X pins σ H s' → RelV v w' → Q w' s') :
    wpAny (model X.prog X.w) A (getItem (.ref a) u) Q E s := by
  rcases g with ⟨kvs, k, e, ey, l⟩ | ⟨kvs, k, b, e, ey, eb, l⟩
  · subst ey
    obtain ⟨z, hd, vs, rel, dd⟩ := dk_rd I.hok e
    obtain ⟨w', hw, rw'⟩ := RelO.some_of (v := v) (o := valueAt vs k) (by rw [l]; exact rel.val k)
    exact wpAny_getItem_of (kV_is ry) dd.mapOf hw (h w' _ (I.tok _) rw')
  · subst ey
    cases (show u = Value.ref b from ry)
    obtain ⟨z, hd, xs, rel, dd⟩ := dt_rd I.hok e
    obtain ⟨w', hw, rw'⟩ := RelO.some_of (v := v) (o := (atKey xs k).map (·.2)) (by rw [l]; exact rel.val k)
    obtain ⟨p, hp, hp2⟩ := Option.map_eq_some_iff.mp hw
    refine wpAny_getItem_heap (tupleKind_room_in1 hu) (key_of I.hok eb) dd hp ?_
    rw [hp2]
    exact h w' _ (I.tok _) rw'
theorem d_write {h' : Heap} {t' : Nat} {ob : HO} (I : Inv X pins σ H s) (mu : Mut (H a)) (hs : Heap.SameBut a s.heap h') (he : ∃ q, h'.get? a = some q) (new : ObjOk X.prog X.w (upd H a ob) h' a ob) :
    Inv X pins σ (upd H a ob) { s with heap := h', toks := t' } :=
  I.write (x := a) (e := a) mu (.inl rfl) (fun b q hb z => (hs.2 b hb).trans z) he new
theorem dk_new {P : Program} {w : World} {H' : Hp} {h' : Heap} {kvs : List (Key × V)} {vs : List (Key × Value)} (z : kvs.length ≤ sizeLine) (hd : (a == sysModules) = false) (rel : KV kvs vs) (dd : h'.DictOf (mixKind P w) a vs) :
    ObjOk P w H' h' a (.dK kvs) := ⟨z, hd, vs, rel, dd⟩
theorem d_setItem {H' : Hp} {Q : Unit → Shared → Prop} (hu : A.units + 1 < cLine) (I : Inv X pins σ H s) (g : DPut H a y v H') (ry : RelV y u) (rv : RelV v r) (h : ∀ s', Inv X pins σ H' s' → Q () s') :
    wpAny (model X.prog X.w) A (setItem (.ref a) u r) Q E s := by
  rcases g with ⟨kvs, k, e, ey, l, eH⟩ | ⟨kvs, k, b, e, ey, eb, l, eH⟩
  · subst ey eH
    obtain ⟨z, hd, vs, rel, dd⟩ := dk_of I.hok e
    have hz : vs.length ≤ sizeLine := by rw [← rel.length]; exact z
    have hl : (putK kvs k v).length ≤ sizeLine := by have := length_putK kvs k v; omega
    refine wpAny_setItem_pairs (hsz := hz) (kV_is ry) dd fun h' dd' hs => h _ ?_
    have he : ∃ q, h'.get? a = some q := let ⟨q, _, _, hq, _⟩ := dd'; ⟨q, hq⟩
    exact d_write I (by rw [e]; exact True.intro) hs he (dk_new hl hd (rel.put k rv) dd')
  · subst ey eH
    cases (show u = Value.ref b from ry)
    obtain ⟨z, hd, xs, rel, dd⟩ := dt_of I.hok e
    have hz : xs.length ≤ sizeLine := by rw [← Paired.length rel]; exact z
    have hl : (putK kvs k v).length ≤ sizeLine := by have := length_putK kvs k v; omega
    refine wpAny_setItem_heap (hsz := hz) (tupleKind_room_in1 hu) (key_of I.hok eb) dd fun h' dd' hs => h _ ?_
    obtain ⟨q, es, ep, hq, h2, h3, h4, _, h5⟩ := dd'
    refine d_write I (by rw [e]; exact True.intro) hs ⟨q, hq⟩ ⟨hl, hd, _, (rel.put k eb rv).keeps fun c ys ec => ?_, q, es, ep, hq, h2, h3, h4, h5⟩
    rw [upd_ne (ne_of ec e (fun z => nomatch z))]
    exact ec
end

section
variable {X : Cx} {pins : List (Addr × Obj)} {σ : St} {H : Hp} {s : Shared} {a : Addr} {kvs : List (Key × V)} {k : Key} {u : Value} {A : Around} {E : Value → Shared → Prop}
end


noncomputable def NoSl (i : Expr) : Prop := ∀ ov iv, subscripted i false ov iv = operate [ov, iv] (getItem ov iv)
theorem subD_of {prog : Program} {w : World} {A : Around} {E : Value → Shared → Prop} {s : Shared} {env : Env} {value slice : Expr} {pos : Pos} {T id : String} {Q : Value → Shared → Prop}
    (hl : typeLookup (.type T) "__getitem__" = pure (some (.builtin id))) (hs : NoSl slice)
    (h : wpAny (model prog w) A (eval value env) (fun o s₁ => wpAny (model prog w) A (eval slice env) (fun i s₂ => s₂.TypeIs o T ∧ wpAny (model prog w) A (getItem o i) Q E s₂) E s₁) E s) :
    wpAny (model prog w) A (eval (.Subscript value slice pos) env) Q E s := by
  refine Subscript_ (wpAny_mono h (fun o s₁ h₁ => wpAny_mono h₁ (fun i s₂ h₂ => ?_) fun _ _ x => x) fun _ _ x => x)
  obtain ⟨hT, h₂⟩ := h₂
  unfold subscriptTail
  refine wpAny_bind ?_
  rw [getitemInPython_of_ne hT.not_modules]
  refine wpAny_bind (wpAny_specialOf hT hl ?_)
  have fin : wpAny (model prog w) A (subscripted slice false o i) (fun r s₃ => wpAny (model prog w) A (letTemporaryGo value o r >>= fun _ => pure r) Q E s₃) E s₂ := by
    rw [hs o i]
    exact wpAny_operating (wpAny_mono h₂ (fun r s₃ h₃ => wpAny_bind (wpAny_letTemporaryGo (wpAny_pure h₃))) fun _ _ x => x)
  first
    | exact wpAny_pure (wpAny_bind fin)
    | exact wpAny_bind (wpAny_pure (wpAny_bind fin))
    | exact wpAny_bind fin

theorem dict_typeIs {X : Cx} {pins : List (Addr × Obj)} {σ : St} {H : Hp} {s : Shared} {a : Addr} {y : V} {o : Option V} (I : Inv X pins σ H s) (g : DGet H a y o) : s.TypeIs (.ref a) "dict" := by
  rcases g with ⟨kvs, k, e, _, _⟩ | ⟨kvs, k, b, e, _, _, _⟩
  · obtain ⟨_, _, vs, _, dd⟩ := dk_rd I.hok e
    exact dd.typeIs
  · obtain ⟨_, _, xs, _, dd⟩ := dt_rd I.hok e
    exact dd.typeIs

noncomputable def tDGet (td ty : TE) : TE := fun σ H Q => td σ H fun x H1 => ty σ H1 fun y H2 => ∃ a v, x = .ref a ∧ DGet H2 a y (some v) ∧ Q v H2
noncomputable def sDPut (td ty tv : TE) : TS := fun D σ H => tv σ H fun v H1 => td σ H1 fun x H2 => ty σ H2 fun y H3 => ∃ a H4, x = .ref a ∧ DPut H3 a y v H4 ∧ D.nx σ H4

section
variable {X : Cx} {o i e value : Expr} {pos pos' tpos : Pos} {td ty tv : TE}
theorem pe_dget (hu : X.A.units + 1 < cLine) (ho : PE X o td) (hi : PE X i ty) (hs : NoSl i) : PE X (.Subscript o i pos) (tDGet td ty) := by
  intro pins s σ H Q I h
  refine subD_of PySem.F.slot_dict_getitem.lookup hs (thn (ho pins s σ H _ I h) fun u s1 ⟨x, H1, I1, rx, q1⟩ => thn (hi pins s1 σ H1 _ I1 q1) fun iv s2 zq68 => ?_)
  obtain ⟨y, H2, I2, ry, a, v, ex, g, q2⟩ := zq68
  subst ex
  obtain rfl : u = Value.ref a := rx
  exact ⟨dict_typeIs I2 g, d_getItem hu I2 g ry fun w' s3 I3 rw' => ⟨v, H2, I3, rw', q2⟩⟩
theorem ps_dput (hu : X.A.units + 1 < cLine) (ho : PE X o td) (hi : PE X i ty) (hv : PE X value tv) (hs : swapsWith value (some (.Subscript o i pos')) pos.line X.env = pure false) :
    PS X (.Assign [.Subscript o i pos'] value pos) (sDPut td ty tv) := by
  intro pins s σ H D I h
  refine wpAny_Assign_Subscript (thn (hv pins s σ H _ I h) fun r s1 ⟨v, H1, I1, rv, q1⟩ => thn (ho pins s1 σ H1 _ I1 q1) fun u s2 ⟨x, H2, I2, rx, q2⟩ => thn (hi pins s2 σ H2 _ I2 q2) fun iv s3 zq71 => ?_) hs
  obtain ⟨y, H3, I3, ry, a, H4, ex, g, q3⟩ := zq71
  subst ex
  obtain rfl : u = Value.ref a := rx
  exact d_setItem hu I3 g ry rv fun s4 I4 => ⟨σ, H4, I4, q3⟩
end


theorem dk_empty {P : Program} {w : World} {H : Hp} (h : Heap) (hb : sysModules < h.objs.size) : ObjOk P w H (h.push { cls := .type "dict", data := .dict #[] }) h.objs.size (.dK []) :=
  ⟨Nat.zero_le _, beq_eq_false_iff_ne.mpr (Ne.symm (Nat.ne_of_lt hb)), [], .nil, Heap.DictOf.new h⟩
section
variable {X : Cx} {pos : Pos}
end

noncomputable def tPairs : List (TE × TE) → St → Hp → (List (V × V) → Hp → Prop) → Prop
  | [], _, H, Q => Q [] H
  | (tk, tv) :: r, σ, H, Q => tk σ H fun x H1 => tv σ H1 fun y H2 => tPairs r σ H2 fun ps H3 => Q ((x, y) :: ps) H3
noncomputable abbrev VV : List (V × V) → List (Value × Value) → Prop := Paired fun p q => RelV p.1 q.1 ∧ RelV p.2 q.2
noncomputable def PPs (X : Cx) (pos : Pos) (keys : List (Option Expr)) (values : List Expr) (trs : List (TE × TE)) : Prop :=
  ∀ (pins : List (Addr × Obj)) (s : Shared) (σ : St) (H : Hp) (Q : List (V × V) → Hp → Prop), Inv X pins σ H s → tPairs trs σ H Q →
    wpAny (model X.prog X.w) X.A (evalPairs (pairTrees keys values X.env pos)) (fun vs s' => ∃ ps H', Inv X pins σ H' s' ∧ VV ps vs ∧ Q ps H') X.xe s
theorem pps_nil {X : Cx} {pos : Pos} : PPs X pos [] [] [] := fun pins s σ H Q I h => pairTrees_nil_walk ⟨[], H, I, .nil, h⟩
theorem pps_cons {X : Cx} {pos : Pos} {k v : Expr} {ks : List (Option Expr)} {vs : List Expr} {tk tv : TE} {trs : List (TE × TE)} (hk : PE X k tk) (hv : PE X v tv) (hr : PPs X pos ks vs trs) :
    PPs X pos (some k :: ks) (v :: vs) ((tk, tv) :: trs) := fun pins s σ H Q I h =>
  pairTrees_cons_walk (thn (hk pins s σ H _ I h) fun u s1 ⟨x, H1, I1, rx, q1⟩ => thn (hv pins s1 σ H1 _ I1 q1) fun w2 s2 ⟨y, H2, I2, ry, q2⟩ =>
    thn (hr pins s2 σ H2 _ I2 q2) fun ws s3 zq75 => (by obtain ⟨ps, H3, I3, rel, q3⟩ := zq75; exact ⟨(x, y) :: ps, H3, I3, .cons ⟨rx, ry⟩ rel, q3⟩))

noncomputable def mergeK (kvs more : List (Key × V)) : List (Key × V) := more.foldl (fun acc kv => putK acc kv.1 kv.2) kvs
theorem KV.merge : ∀ {more : List (Key × V)} {rs : List (Key × Value)} {kvs : List (Key × V)} {vs : List (Key × Value)}, KV more rs → KV kvs vs → KV (mergeK kvs more) (merged vs rs) := by
  intro more rs kvs vs r
  unfold KV at r
  induction r generalizing kvs vs with
  | nil => intro q; exact q
  | @cons p q ps qs h t ih =>
    intro r0
    have e : KV (putK kvs p.1 p.2) (stored vs q.1 q.2) := by
      have := r0.put p.1 h.2
      rw [← h.1]; exact this
    exact ih e
theorem length_mergeK : ∀ (more kvs : List (Key × V)), (mergeK kvs more).length ≤ kvs.length + more.length
  | [], kvs => by show kvs.length ≤ kvs.length + 0; omega
  | p :: r, kvs => by
    have h1 := length_mergeK r (putK kvs p.1 p.2)
    have h2 := length_putK kvs p.1 p.2
    show (mergeK (putK kvs p.1 p.2) r).length ≤ _
    rw [List.length_cons]; omega
theorem carries_of {P : Program} {w : World} : ∀ {kvs : List (Key × V)} {ws : List (Value × Value)}, VV (kvs.map fun kv => (kV kv.1, kv.2)) ws → ∃ rs, Carries (mixKind P w) ws rs ∧ KV kvs rs
  | [], _, r => by rw [List.map_nil] at r; cases r; exact ⟨[], True.intro, .nil⟩
  | p :: kvs, _, r => by
    rw [List.map_cons] at r
    cases r with
    | @cons a b as bs h t =>
      obtain ⟨rs, c, q⟩ := carries_of (P := P) (w := w) t
      obtain ⟨b1, b2⟩ := b
      exact ⟨(p.1, b2) :: rs, ⟨kV_is h.1, rfl, c⟩, .cons ⟨rfl, h.2⟩ q⟩
noncomputable def tDisp (trs : List (TE × TE)) : TE := fun σ H Q => ∀ p, H p = none → tPairs trs σ (upd H p (.dK [])) fun ps H2 => H2 p = some (.dK []) ∧ ∃ kvs : List (Key × V), ps = kvs.map (fun kv => (kV kv.1, kv.2)) ∧ kvs.length ≤ 15 ∧ Q (.ref p) (upd H2 p (.dK (mergeK [] kvs)))
theorem pe_disp {X : Cx} {pos : Pos} {keys : List (Option Expr)} {values : List Expr} {trs : List (TE × TE)} (h : PPs X pos keys values trs) (hall : keys.all (·.isSome) = true) (hl : keys.length = values.length) (h0 : keys ≠ [])
    (h15 : keys.length ≤ 15) : PE X (.Dict keys values pos) (tDisp trs) := by
  intro pins s σ H Q I q
  have hn := I.hok.fresh (Nat.le_refl s.heap.objs.size)
  have I1 := I.laid (a := s.heap.objs.size) (o := .dK []) (h' := s.heap.push { cls := .type "dict", data := .dict #[] }) (t' := s.toks) (fun _ _ q => Heap.get?_push_of_some _ q) (Nat.le_refl _) (dk_empty s.heap I.big)
  refine wpAny_Dict_walk (knd := mixKind X.prog X.w) hall hl h0 h15 (thn (h pins _ σ _ _ I1 (q _ hn)) fun ws s2 zq76 => ?_)
  obtain ⟨ps, H2, I2, rel, e, kvs, ep, lk, q2⟩ := zq76
  subst ep
  obtain ⟨rs, c, rk⟩ := carries_of (P := X.prog) (w := X.w) rel
  obtain ⟨z, hd, vs0, r0, dd⟩ := dk_of I2.hok e
  cases r0
  refine ⟨rs, c, dd, fun h' dd' hs => ⟨.ref s.heap.objs.size, _, ?_, rfl, q2⟩⟩
  have hz : (mergeK [] kvs).length ≤ sizeLine := by
    have h1 := length_mergeK kvs []
    rw [List.length_nil] at h1
    rw [sizeLine_eq]; omega
  have he : ∃ q, h'.get? s.heap.objs.size = some q := let ⟨q, _, _, hq, _⟩ := dd'; ⟨q, hq⟩
  exact d_write I2 (by rw [e]; exact True.intro) hs he (dk_new hz hd (rk.merge .nil) dd')




section
variable {X : Cx} {pins : List (Addr × Obj)} {σ : St} {H : Hp} {s : Shared} {a : Addr} {y d : V} {u r : Value} {o : Option V} {A : Around} {E : Value → Shared → Prop}
end

section
variable {X : Cx} {o e f : Expr} {apos cpos : Pos} {td ty tx : TE}
end

section
variable {X : Cx} {pins : List (Addr × Obj)} {σ : St} {H : Hp} {s : Shared} {a : Addr} {kvs : List (Key × V)} {A : Around} {E : Value → Shared → Prop}
end


section
variable {X : Cx} {pins : List (Addr × Obj)} {σ : St} {H : Hp} {s : Shared} {a : Addr} {y : V} {u : Value} {A : Around} {E : Value → Shared → Prop}
end
end L2

namespace Att
open PySem PySem.W PySem.Calls PyProof.Rows

theorem ints_of_wellAll {P : Params} {h : Heap} : ∀ (ns : List Int) (vs : List Value), WellAll P h vs (ns.map WData.int) → IntsAre vs ns := by
  intro ns
  induction ns with
  | nil =>
    intro vs w
    rw [List.map_nil] at w
    cases w
    exact .nil
  | cons n ns ih =>
    intro vs w
    rw [List.map_cons] at w
    cases w with
    | cons a b =>
      cases a
      exact .cons _ _ (ih _ b)

theorem script_of {l : OpenLaw} {n : Nat} (hn : l.most = some n) {P : Params} {h : Heap} {args : List WData} {vals : List Value}
    (hpre : l.row.toRowW.claim.pre args = true) (hwl : WellAll P h vals args) :
    ∃ a vs ns, vals = [Value.ref a] ∧ args = [WData.list (ns.map WData.int)] ∧ h.get? a = some { cls := .type "list", data := .seq vs.toArray } ∧ IntsAre vs ns ∧ ns.length ≤ n := by
  have hsh : WShape.hasAll [] args [.list .int] = true := (pre_splitW hpre).1
  have hc : l.pre.holds [] { args := args } = true := (pre_splitW hpre).2
  obtain ⟨d, r, rfl, h1, h2⟩ := hasAllW_cons hsh
  obtain rfl := hasAllW_nil h2
  obtain ⟨xs, rfl, h3⟩ := hasW_list h1
  obtain ⟨ns, rfl⟩ := items_int h3
  have hlen : ns.length ≤ n := by
    unfold OpenLaw.pre at hc
    have h4 : (WTm.not (.lt (.lit (.int (n : Int))) (.len (.arg 0)))).holds [] { args := [.list (ns.map .int)] } = true := by
      have h4 := (holds_andW hc).1
      rw [hn] at h4
      exact h4
    have h5 := condW_of h4 (w_not (w_lt w_lit (w_len_list (w_arg rfl))))
    rw [List.length_map] at h5
    refine Nat.le_of_not_lt fun q => ?_
    have q' : (n : Int) < ((ns.length : Nat) : Int) := by omega
    first
      | (rw [decide_eq_true q'] at h5; exact absurd h5 (by decide))
      | (simp at h5; omega)
  cases hwl with
  | cons w1 w2 =>
    cases w2
    cases w1 with
    | list ho hall => exact ⟨_, _, ns, rfl, rfl, ho, ints_of_wellAll ns _ hall, hlen⟩

theorem post_true (l : OpenLaw) (args : List WData) : l.row.toRowW.claim.post args (.bool true) args = true :=
  postW_of (r := l.row.toRowW) (X := (true == true))
    (show WShape.has [] (.bool true) .bool = true by first | rfl | decide | simp [WShape.has, WShape.arms, WShape.armsAll])
    (show (WTm.eq .res (.lit (.bool true))).value [] { args := args, res := some (.bool true), after := args } = some (.bool (true == true)) from w_eq_bool (w_res rfl) w_lit) rfl


theorem attach_call {l : OpenLaw} {n : Nat} {q : Program} {loose : List Str} {XP : (Str → Option Value) → Heap → Prop} {YP : World → Heap → Prop} {d : DefRec}
    (hn : l.most = some n) (hdf : d.params.defaults = [])
    (call : ∀ (w : World) (s₀ s₁ : Shared) (mg mb : Str → Option Value) (fa : Addr) (o : Obj) (pm cd doc : Value) (a : Addr) (vs : List Value) (ns : List Int),
      Ground q loose [] XP w s₀ mg mb s₁.heap → YP w s₁.heap →
      s₁.heap.get? fa = some o → o.data = .func (docDef d.name d.params d.body d.scope pm cd doc) → s₁.heap.CodeRec cd d.name → mg d.name = some (.ref fa) →
      s₁.heap.get? a = some { cls := .type "list", data := .seq vs.toArray } → IntsAre vs ns → ns.length ≤ n → s₁.gens = #[] →
      codeAny (model l.prog w) callerA (.call (.ref fa) ⟨[.ref a], []⟩) (fun r s' => r = .ok (.ret (.bool true)) ∧ OldK s₁.heap s'.heap ∧ s'.os = s₁.os ∧ AllBare s'.gens) s₁) :
    WalkO q loose XP YP l.row.toRowW d [] (fun f vs => PySem.call f vs) := by
  intro w s₀ s₁ mg mb G Y fa o pm cd doc dV kV ho hd hcd hD hmg hg args vals as hpre hlay hrd hwl hlo
  obtain rfl : dV = .none := Dflts.none hD hdf
  obtain rfl : kV = .none := Dflts.noKw hD
  obtain ⟨a, vs, ns, rfl, rfl, hobj, hints, hlen⟩ := script_of hn hpre hwl
  refine enter_call (codeAny_mono (call w s₀ s₁ mg mb fa o pm cd doc a vs ns G Y ho (fd_plain hd) hcd hmg hobj hints hlen hg) fun r s' hq => ?_)
  obtain ⟨rfl, h2, h3, h4⟩ := hq
  exact ⟨.inl ⟨.bool true, .bool true, [], rfl, fun _ => rfl, .bool true, post_true l _, fun _ => ⟨List.Pairwise.nil, fun _ hm => (nomatch hm)⟩⟩, h2, h3, h4⟩


section
variable {prog : Program} {w : World} {A : Around} {E : Value → Shared → Prop} {s : Shared} {K : Frag}






end
end Att

namespace L2
open PySem PySem.Spec PyProof.Rows

theorem vals_ints : ∀ {vs : List Value} {ns : List Int}, IntsAre vs ns → Vals (ns.map V.int) vs
  | _, _, .nil => .nil
  | _, _, .cons n t h => .cons ⟨t, rfl⟩ (vals_ints h)

noncomputable def Only (H : Hp) : Prop := ∀ b, H b = none ∨ ∃ o xs, H b = some (.frz o (.lst xs))

theorem law_call {P : Program} {w : World} {K : PySem.W.Frag} {mg mb : Str → Option Value} {CX : CXT} {k : Nat} {fa a : Addr} {fd : FuncData} {x : Str} {sp : Sp} {s₁ : Shared} {vs : List Value} {ns : List Int}
    (KX : K.In s₁.heap) (hns : s₁.heap.Ns mainGlobals mg) (hb : s₁.heap.Ns builtinsNs mb) (hbb : ∀ x : Str, x ≠ "__name__" → mb x = bootBuiltins x) (hlim : s₁.heap.NoLimit) (hg : s₁.gens = #[])
    (ha : s₁.heap.get? a = some { cls := .type "list", data := .seq vs.toArray }) (hi : IntsAre vs ns) (hl : ns.length ≤ sizeLine) (hr : Room k callerA)
    (F : ∀ base : Heap, K.In base → base.Ns mainGlobals mg → FnOk P w K mg base CX k fa fd [x] sp) (hbind : ∀ (s : Shared) (u : Value), BindsTo s fd ⟨[u], []⟩ [(x, u)])
    (hsp : ∀ H : Hp, Only H → SqL K H a (ns.map V.int) → sp [.ref a] H (fun v _ => v = .bl true) fun _ _ _ => False)
    (hCX : ∀ H e s', CX [] H s₁ (fun _ _ _ => False) e s' → False) :
    codeAny (model P w) callerA (.call (.ref fa) ⟨[.ref a], []⟩) (fun r s' => r = .ok (.ret (.bool true)) ∧ OldK s₁.heap s'.heap ∧ s'.os = s₁.os ∧ AllBare s'.gens) s₁ := by
  have rv := vals_ints hi
  have lenV := hi.length
  -- from an abstract heap in which nothing but the script may be tracked
  have core : ∀ H : Hp, Only H → SqL K H a (ns.map V.int) → HOk P w H s₁.heap → (∀ b, H b ≠ none → b = a) → (H a ≠ none → K.lookup a = none) →
      codeAny (model P w) callerA (.call (.ref fa) ⟨[.ref a], []⟩) (fun r s' => r = .ok (.ret (.bool true)) ∧ OldK s₁.heap s'.heap ∧ s'.os = s₁.os ∧ AllBare s'.gens) s₁ := by
    intro H hO hS hok hA hK
    have base_of : ∀ {b : Addr} {o : Obj}, s₁.heap.get? b = some o → H b = none → (hidT s₁.heap H).get? b = some o := fun e n => hidT_get e n
    have noA : ∀ {b : Addr} {o : Obj} {es : Array DictEntry} {ep : Nat}, s₁.heap.get? b = some o → o.data = .dict es ep → H b = none := fun {b o es ep} e d => by
      cases q : H b with
      | none => rfl
      | some u =>
        have e' : b = a := hA b (by rw [q]; simp)
        subst e'
        rw [ha] at e; cases e
        have d' : Data.seq vs.toArray _ = Data.dict es ep := d
        cases d'
    have nsK : ∀ {b : Addr} {m : Str → Option Value}, s₁.heap.Ns b m → (hidT s₁.heap H).Ns b m := fun {b m} ⟨o, es, ep, e, d, r⟩ => ⟨o, es, ep, base_of e (noA e d), d, r⟩
    have hKb : K.In (hidT s₁.heap H) := fun b o e => base_of (KX b o e) (by
      cases q : H b with
      | none => rfl
      | some u =>
        have e' : b = a := hA b (by rw [q]; simp)
        subst e'
        rw [hK (by rw [q]; simp)] at e; cases e)
    have hM : Mod K mg (hidT s₁.heap H) := ⟨hKb, nsK hns, ⟨mb, nsK hb, hbb⟩, let ⟨mc, h1, h2⟩ := hlim; ⟨mc, nsK h1, h2⟩⟩
    have e0 : Env0 P w K mg (hidT s₁.heap H) callerA [] s₁ H := ⟨rfl, hM, fun b o e => of_hidT e, Nat.le_of_eq (hidT_size _ _), trivial, fun b hb => absurd (show b ∈ ([] : List Addr) from hb) (by simp), hok, .of_eq hg⟩
    refine codeAny_mono ((F _ hKb (nsK hns)).run callerA [] s₁ H ⟨[.ref a], []⟩ [.ref a] [.ref a] _ _ hr e0 (hbind s₁ (.ref a)) (.cons rfl .nil) (hsp H hO hS)) fun r s' h => ?_
    cases r with
    | error e => exact (hCX H e s' h).elim
    | ok fl =>
      cases fl with
      | next => exact False.elim h
      | brk => exact False.elim h
      | cont => exact False.elim h
      | ret u =>
        obtain ⟨v, H', os, bare, un, hok', r', q⟩ := h
        have q' : v = .bl true := q
        subst q'
        obtain rfl : u = Value.bool true := r'
        refine ⟨rfl, OldK.of_keep fun b o e => ?_, os, bare⟩
        cases q : H b with
        | none => exact un.keep b o e q (by intro z; exact absurd (show b ∈ ([] : List Addr) from z) (by simp)) (by simp)
        | some u =>
          rcases hO b with z | ⟨ob, xs, z⟩
          · rw [q] at z; cases z
          · have z2 := un.frzs b ob _ z
            obtain ⟨e1, _⟩ := hok b _ z
            obtain ⟨e2, _⟩ := hok' b _ z2
            rw [e] at e1; cases e1
            exact e2
  cases hk : K.lookup a with
  | some o =>
    -- the script is one of the module's own objects
    have e := KX a o hk
    rw [ha] at e
    cases e
    refine core (fun _ => none) (fun _ => .inl rfl) (.inr ⟨_, vs.toArray, _, hk, rfl, rfl, rfl, by rw [List.size_toArray, lenV]; exact hl, by simpa using rv⟩) (fun b u z => by have z' : (none : Option HO) = some u := z; cases z') (fun b z => absurd rfl z) fun z => absurd rfl z
  | none =>
    refine core (fun b => if b = a then some (.frz { cls := .type "list", data := .seq vs.toArray } (.lst (ns.map V.int))) else none) (fun b => ?_) (.inl (.inr ⟨{ cls := .type "list", data := .seq vs.toArray }, if_pos rfl⟩)) (fun b u z => ?_) (fun b z => ?_) fun _ => hk
    · by_cases hb : b = a
      · exact .inr ⟨_, _, if_pos hb⟩
      · exact .inl (if_neg hb)
    · by_cases hb : b = a
      · have z' := (if_pos hb).symm.trans z
        cases z'
        subst hb
        exact ⟨ha, by rw [List.length_map]; exact hl, vs, _, rv, ha⟩
      · have z' := (if_neg hb).symm.trans z
        cases z'
    · by_cases hb : b = a
      · exact hb
      · exact absurd (if_neg hb) z
end L2

namespace L2
open PySem PySem.Spec PyProof.Rows


theorem walk_of {l : PySem.W.OpenLaw} {n k : Nat} {q : Program} {loose : List Str} {XP : (Str → Option Value) → Heap → Prop} {YP : World → Heap → Prop} {d : DefRec} {K : Params → PySem.W.Frag} {CX : World → CXT} {sp : World → Sp} {x : Str}
    (hn : l.most = some n) (hn2 : n ≤ sizeLine) (hdf : d.params.defaults = []) (hr : Room k callerA)
    (hY : ∀ (w : World) (h : Heap), YP w h → (K w.params).In h)
    (F : ∀ (w : World) (mg : Str → Option Value) (fa : Addr) (h : Heap), (K w.params).In h → h.Ns mainGlobals mg → mg d.name = some (.ref fa) →
      ∃ fd : FuncData, (∀ (s : Shared) (u : Value), BindsTo s fd ⟨[u], []⟩ [(x, u)]) ∧
        ∀ base : Heap, (K w.params).In base → base.Ns mainGlobals mg → FnOk l.prog w (K w.params) mg base (CX w) k fa fd [x] (sp w))
    (hsp : ∀ (w : World) (H : Hp) (a : Addr) (ns : List Int), ns.length ≤ n → Only H → SqL (K w.params) H a (ns.map V.int) → sp w [.ref a] H (fun v _ => v = .bl true) fun _ _ _ => False)
    (hCX : ∀ (w : World) (H : Hp) (s : Shared) (e : Value) (s' : Shared), CX w [] H s (fun _ _ _ => False) e s' → False) :
    PySem.W.WalkO q loose XP YP l.row.toRowW d [] (fun f vs => PySem.call f vs) := by
  refine Att.attach_call hn hdf fun w s₀ s₁ mg mb fa o pm cd doc a vs ns G Y ho hd hcd hmg hobj hints hlen hg => ?_
  have KX := hY w _ Y
  obtain ⟨fd, hb, hF⟩ := F w mg fa _ KX G.T.g hmg
  exact law_call KX G.T.g G.T.b G.T.builtins G.T.nolimit hg hobj hints (Nat.le_trans hlen hn2) hr hF hb (fun H hO hS => hsp w H a ns hlen hO hS) fun H e s' => hCX w H s₁ e s'
end L2

/- THE LAST THEOREM (shape; LID, My.* are yours):
   My.Adr: a structure of the addresses that your layer names (classes, functions); My.Txt K t: a structure (Prop) of the equations over K;
   My.txt_mk : {K} {implicit addresses ..} (e1 : nsIn K mainGlobals "law" = some (some (.ref f))) (e2 : K.lookup f = some ⟨oc, od, .func (fnOf "law" "law" params body scope dV kV doc pm an cdv ct), sl⟩) (e3 : codeIn K cdv "law" = true) .. : ∃ t, My.Txt K t

set_option maxRecDepth 100000 in
set_option maxHeartbeats 0 in
theorem PySem.Challenge.cw_LID_holds : PySem.Challenge.rw_LID.Holds := by
  w_on; o_law; k_head; (case hw => w_witness2)
  k_fill
  refine L2.walk_of (l := PySem.Challenge.rw_LID) (n := 63) (k := 40) (x := "script") (CX := fun w => ..) (sp := fun _ => My.sp_law) rfl (by decide) rfl ⟨rfl, by decide, by decide⟩ (fun w h Y => PySem.W.kIn_of Y) ?F ?S ?C
  case F =>
    intro w mg fa h KX G hmg
    have T : ∃ t, My.Txt (L2.KOf KX) t := by
      dsimp only [L2.KOf]                          -- K must stand as «<heap const> w.params» for k_is
      refine' My.txt_mk ?e1 ?e2 ?e3 ..
      (case e1 => PySem.W.k_is)                    -- in the order: a name -> its address -> its object -> its parts
      (case e2 => PySem.W.k_is)
      ..
    obtain ⟨t, T⟩ := T
    have e0 := hmg.symm.trans (PySem.W.mg_of KX G T.law)
    cases e0                                       -- fa is the law's own address
    exact ⟨_, fun s u => .of_eq rfl, fun base kb nb => My.law_fn T kb nb⟩     -- if «.of_eq rfl» comes too early: refine' ⟨_, ?b, fun base kb nb => My.law_fn T kb nb⟩; exact fun s u => .of_eq rfl
  case S => exact fun w H a ns hl hO hS => ..
  case C => exact ..
(the tactic k_is has no namespace: write k_is) -/

namespace L2
open PySem PySem.Spec PyProof.Rows

noncomputable def defArgs (s : Stmt) : Arguments := match s with
  | .FunctionDef _ a _ _ _ _ _ _ _ _ => a
  | _ => { posonlyargs := [], args := [], vararg := none, kwonlyargs := [], kw_defaults := [], kwarg := none, defaults := [] }
noncomputable def defBody (s : Stmt) : List Stmt := match s with
  | .FunctionDef _ _ b _ _ _ _ _ _ _ => b
  | _ => []
noncomputable def defScope (s : Stmt) : Scope := match s with
  | .FunctionDef _ _ _ _ _ _ sc _ _ _ => sc
  | _ => { kind := .function, names := [], isGenerator := false, isCoroutine := false }

noncomputable abbrev CX0 : CXT := fun _ _ _ _ _ _ => False
noncomputable abbrev E0 : XK := fun _ _ _ => False
theorem pass0 {X : Cx} : Passes CX0 X E0 := fun _ _ _ _ _ _ _ h => h.elim

structure Fun (K : PySem.W.Frag) (x qual : Str) (st : Stmt) (f : Addr) (fd : FuncData) : Prop where
  ex : ∃ (oc : Value) (od : Option Addr) (kV doc pm : Value) (an : Option Addr) (cdv ct : Value) (osl : Array (Option Value)),
    fd = PySem.W.fnOf x qual (defArgs st) (defBody st) (defScope st) .none kV doc pm an cdv ct ∧ K.lookup f = some ⟨oc, od, .func fd, osl⟩ ∧ PySem.W.codeIn K cdv qual = true
  kp : PySem.W.keepIn K (.ref f) = true
section
variable {P : Program} {w : World} {K : PySem.W.Frag} {mg : Str → Option Value} {base : Heap}
theorem Fun.ok {x qual : Str} {st : Stmt} {f : Addr} {fd : FuncData} {N ps : List Str} {k : Nat} {sp : Sp} (F : Fun K x qual st f fd) (S : FnScope N ps (defScope st)) (len : ∀ vs H Q E, sp vs H Q E → vs.length = ps.length)
    (hbody : ∀ (cdv : Value) (A : Around) (outer : List Env) (s : Shared) (H : Hp) (vs : List V) (Q : VK) (E : XK), Room k (A.deeper (envOfC qual (defScope st) s.heap.objs.size f cdv)) → sp vs H Q E →
      ∃ t, PSs (cxOf CX0 P w K mg base N qual (defScope st) f cdv A outer s H E).nox (defBody st) t ∧ t { nx := fun _ H' => Q .non H', rt := Q } (start N vs) H) : FnOk P w K mg base CX0 (k + 1) f fd ps sp := by
  obtain ⟨oc, od, kV, doc, pm, an, cdv, ct, osl, rfl, lk, hcd⟩ := F.ex
  refine fn_of lk hcd S len fun A outer s H vs Q E hr hsp => ?_
  obtain ⟨t, h, q⟩ := hbody cdv A outer s H vs Q E hr hsp
  exact ⟨t, h.nox, q⟩
theorem Fun.binds {x qual : Str} {st : Stmt} {f : Addr} {fd : FuncData} {ps : List Str} (F : Fun K x qual st f fd)
    (h : ∀ (kV doc pm : Value) (an : Option Addr) (cdv ct : Value) (us : List Value), us.length = ps.length → bindArgs (PySem.W.fnOf x qual (defArgs st) (defBody st) (defScope st) .none kV doc pm an cdv ct) ⟨us, []⟩ = pure (ps.zip us)) : Binds K fd ps [] := by
  obtain ⟨oc, od, kV, doc, pm, an, cdv, ct, osl, rfl, lk, hcd⟩ := F.ex
  exact .all (h kV doc pm an cdv ct)
theorem fun_mk {x qual : Str} {st : Stmt} {f : Addr} {oc : Value} {od an : Option Addr} {osl : Array (Option Value)} {kV doc pm cdv ct : Value} (l : K.lookup f = some ⟨oc, od, .func (PySem.W.fnOf x qual (defArgs st) (defBody st) (defScope st) .none kV doc pm an cdv ct), osl⟩)
    (c : PySem.W.codeIn K cdv qual = true) (k : PySem.W.keepIn K (.ref f) = true) : Fun K x qual st f (PySem.W.fnOf x qual (defArgs st) (defBody st) (defScope st) .none kV doc pm an cdv ct) := ⟨⟨oc, od, kV, doc, pm, an, cdv, ct, osl, rfl, l, c⟩, k⟩
end
theorem hu_of {A : Around} {k : Nat} (hr : Room k A) : A.units + 1 < cLine := Nat.lt_of_le_of_lt (Nat.add_le_add_left (by decide : 1 ≤ 64) _) hr.units

section
variable {X : Cx}
theorem pv (i : Nat) {x : Str} {pos : Pos} (hN : X.N[i]? = some x := by rfl) (hv : Vis X.env.scope x := by first | exact Or.inl rfl | exact Or.inr (Or.inl rfl) | exact Or.inr (Or.inr rfl)) (hd : (x == ("__debug__" : Str)) = false := by decide)
    (hcd : (x == ("__classdict__" : Str)) = false := by decide) : PE X (.Name x pos) (tVar i) := pe_var hN hv hd hcd
end

theorem iteF {A B : Prop} (h : B) : if false = true then A else B := by
  rw [if_neg Bool.false_ne_true]
  exact h
theorem iteT {A B : Prop} (h : A) : if true = true then A else B := by
  rw [if_pos rfl]
  exact h
theorem ite2 {c A B : Prop} [Decidable c] (h1 : c → A) (h2 : ¬ c → B) : if c then A else B := by
  by_cases h : c
  · rw [if_pos h]
    exact h1 h
  · rw [if_neg h]
    exact h2 h

noncomputable def Same (H H' : Hp) : Prop := ∀ b o, H b = some o → H' b = some o
theorem Same.refl (H : Hp) : Same H H := fun _ _ h => h
theorem Same.trans {H H1 H2 : Hp} (a : Same H H1) (b : Same H1 H2) : Same H H2 := fun c o h => b c o (a c o h)
theorem Same.seq {K : PySem.W.Frag} {H H' : Hp} {a : Addr} {xs : List V} (e : Same H H') (h : SqL K H a xs) : SqL K H' a xs := by
  rcases h with (h | ⟨o, h⟩) | h
  · exact .inl (.inl (e _ _ h))
  · exact .inl (.inr ⟨o, e _ _ h⟩)
  · exact .inr h

section
variable {κ : Type} [DecidableEq κ]
end
end L2
set_option Elab.async false
set_option linter.all false
set_option maxRecDepth 100000
namespace L2
open PySem PySem.Spec PyProof.Rows

noncomputable def clOf (cells : List (Str × Addr)) : List (Str × NameKind) → List (Str × Addr) → List (Str × Addr)
  | [], acc => acc
  | (x, k) :: r, acc => if k == NameKind.free then clOf cells r ((x, (cells.lookup x).getD 0) :: acc) else clOf cells r acc
theorem clOf_mem {cells : List (Str × Addr)} {p : Str × Addr} : ∀ {names : List (Str × NameKind)} {acc : List (Str × Addr)}, p ∈ clOf cells names acc → p ∈ acc ∨ ((p.1, NameKind.free) ∈ names ∧ p.2 = (cells.lookup p.1).getD 0)
  | [], _, h => .inl h
  | (x, k) :: r, acc, h => by
    unfold clOf at h
    by_cases hk : (k == NameKind.free) = true
    · rw [if_pos hk] at h
      have ek : k = NameKind.free := by simpa using hk
      subst ek
      rcases clOf_mem h with h | ⟨h, e⟩
      · rcases List.mem_cons.mp h with h | h
        · subst h
          exact .inr ⟨List.mem_cons_self, rfl⟩
        · exact .inl h
      · exact .inr ⟨List.mem_cons_of_mem _ h, e⟩
    · rw [if_neg hk] at h
      rcases clOf_mem h with h | ⟨h, e⟩
      · exact .inl h
      · exact .inr ⟨List.mem_cons_of_mem _ h, e⟩
theorem clOf_acc {cells : List (Str × Addr)} {p : Str × Addr} : ∀ {names : List (Str × NameKind)} {acc : List (Str × Addr)}, p ∈ acc → p ∈ clOf cells names acc
  | [], _, h => h
  | (x, k) :: r, acc, h => by
    unfold clOf
    split
    · exact clOf_acc (List.mem_cons_of_mem _ h)
    · exact clOf_acc h
theorem clOf_has {cells : List (Str × Addr)} {x : Str} : ∀ {names : List (Str × NameKind)} {acc : List (Str × Addr)}, (x, NameKind.free) ∈ names → (x, (cells.lookup x).getD 0) ∈ clOf cells names acc
  | [], _, h => by simp at h
  | (y, k) :: r, acc, h => by
    unfold clOf
    rcases List.mem_cons.mp h with h | h
    · have e1 : x = y := congrArg Prod.fst h
      have e2 : NameKind.free = k := congrArg Prod.snd h
      subst e1 e2
      rw [if_pos (by simp)]
      exact clOf_acc List.mem_cons_self
    · split
      · exact clOf_has h
      · exact clOf_has h
theorem lookup_of_mem {x : Str} {c : Addr} : ∀ {l : List (Str × Addr)}, (x, c) ∈ l → ∃ d, l.lookup x = some d
  | [], h => by simp at h
  | (y, d) :: r, h => by
    rw [List.lookup_cons]
    by_cases e : (x == y) = true
    · rw [e]; exact ⟨d, rfl⟩
    · have e' : (x == y) = false := by simpa using e
      rw [e']
      rcases List.mem_cons.mp h with h | h
      · have : x = y := congrArg Prod.fst h
        exact absurd (by simpa using this) e
      · exact lookup_of_mem h
theorem closureFor_is {env : Env} {scope : Scope} (h : ∀ y ∈ scope.names, y.2 = NameKind.free → ∃ c, env.cells.lookup y.1 = some c) : closureFor scope env = pure (clOf env.cells scope.names []) := by
  have all : ∀ (names : List (Str × NameKind)) (acc : List (Str × Addr)), (∀ y ∈ names, y.2 = NameKind.free → ∃ c, env.cells.lookup y.1 = some c) →
      (forIn names acc (fun (p : Str × NameKind) (r : List (Str × Addr)) => (if (p.2 == NameKind.free) = true then (do let a ← cellOf env p.1; pure (ForInStep.yield ((p.1, a) :: r))) else pure (ForInStep.yield r) : Sem (ForInStep (List (Str × Addr)))))) = (pure (clOf env.cells names acc) : Sem (List (Str × Addr))) := by
    intro names
    induction names with
    | nil => intro acc _; rfl
    | cons p r ih =>
      intro acc hh
      obtain ⟨x, k⟩ := p
      have hr : ∀ y ∈ r, y.2 = NameKind.free → ∃ c, env.cells.lookup y.1 = some c := fun y hy => hh y (List.mem_cons_of_mem _ hy)
      rw [List.forIn_cons]
      unfold clOf
      by_cases hk : (k == NameKind.free) = true
      · obtain ⟨c, hc⟩ := hh (x, k) List.mem_cons_self (by simpa using hk)
        have hc : env.cells.lookup x = some c := hc
        have ec : cellOf env x = pure c := by
          unfold cellOf
          rw [hc]
        simp only [hk, if_true, ec, pure_bind, hc, Option.getD_some]
        exact ih _ hr
      · simp only [hk, if_false, pure_bind]
        exact ih _ hr
  have e := all scope.names [] h
  unfold closureFor
  simp only [bind_pure]
  exact e

noncomputable def blkOk (scope sc : Scope) (NB own : List Str) (cap : List Nat) (N : List Str) : Bool :=
  (scope.kind == .function) && (sc.kind == .function) &&
  (scope.names.all fun y => match y.2 with
    | .cell => false
    | .free => sc.names.lookup y.1 == some NameKind.cell
    | .local => scope.names.lookup y.1 == some NameKind.local
    | _ => true) &&
  (own.all fun x => scope.names.lookup x == some NameKind.local && scope.names.all fun y => !(y.1 == x) || y.2 == NameKind.local) &&
  (NB == own ++ cap.map fun i => N.getD i "") && (cap.all fun i => decide (i < N.length) && scope.names.lookup (N.getD i "") == some NameKind.free)

structure Blk (X : Cx) (scope : Scope) (NB own : List Str) (cap : List Nat) : Prop where
  kind : scope.kind = .function
  outk : X.env.scope.kind = .function
  nocell : ∀ y ∈ scope.names, y.2 ≠ .cell
  free : ∀ y ∈ scope.names, y.2 = .free → X.env.kindOf y.1 = some .cell
  names : ∀ y ∈ scope.names, y.2 = .local → scope.names.lookup y.1 = some .local
  owns : ∀ x ∈ own, ∀ y ∈ scope.names, y.1 = x → y.2 = .local
  nb : NB = own ++ cap.map fun i => X.N.getD i ""
  caps : ∀ i ∈ cap, i < X.N.length ∧ scope.names.lookup (X.N.getD i "") = some .free
theorem blk_of {X : Cx} {scope sc : Scope} {NB own : List Str} {cap : List Nat} (hs : X.env.scope = sc) (h : blkOk scope sc NB own cap X.N = true) : Blk X scope NB own cap := by
  unfold blkOk at h
  simp only [Bool.and_eq_true] at h
  obtain ⟨⟨⟨⟨⟨h1, h2⟩, h3⟩, h4⟩, h5⟩, h6⟩ := h
  rw [List.all_eq_true] at h3 h4 h6
  subst hs
  refine ⟨by simpa using h1, by simpa using h2, fun y hy e => ?_, fun y hy e => ?_, fun y hy e => ?_, fun x hx y hy e => ?_, by simpa using h5, fun i hi => ?_⟩
  · have := h3 y hy
    rw [e] at this
    exact absurd this (by simp)
  · have := h3 y hy
    rw [e] at this
    show X.env.scope.names.lookup y.1 = some .cell
    simpa using this
  · have := h3 y hy
    rw [e] at this
    simpa using this
  · have := h4 x hx
    simp only [Bool.and_eq_true, List.all_eq_true] at this
    have q := this.2 y hy
    subst e
    simpa using q
  · have := h6 i hi
    simp only [Bool.and_eq_true] at this
    exact ⟨of_decide_eq_true this.1, by simpa using this.2⟩

noncomputable def cxB (X : Cx) (NB own : List Str) (scope : Scope) (C : Addr) (fp : List Addr) (s₀ : Shared) (H₀ : Hp) : Cx where
  prog := X.prog
  w := X.w
  K := X.K
  mg := X.mg
  base := X.base
  A := X.A
  N := NB
  s₀ := s₀
  H₀ := H₀
  env := compEnvC scope (clOf X.env.cells scope.names []) C X.env
  outer := X.stack
  stack := X.stack
  ex := fp
  fn := fun x => own.contains x
  calm := X.calm
  pn := []
  xe := fun _ _ => False

theorem relabel_free {env : Env} {x : Str} {k : NameKind} (hk : k = .cell ∨ k = .free) : ∀ {names : List (Str × NameKind)}, (∀ y ∈ names, y.2 ≠ .cell) →
    (names.map fun (n, k) => if (k == NameKind.free && env.scope.kind == .function && env.kindOf n == some .cell) then (n, NameKind.cell) else (n, k)).lookup x = some k → (x, NameKind.free) ∈ names
  | [], _, h => by simp at h
  | (n, q) :: r, hn, h => by
    have ih := @relabel_free env x k hk r fun y hy => hn y (List.mem_cons_of_mem _ hy)
    rw [List.map_cons, List.lookup_cons] at h
    have key : (if (q == NameKind.free && env.scope.kind == .function && env.kindOf n == some .cell) = true then (n, NameKind.cell) else (n, q)).1 = n := by split <;> rfl
    by_cases e : (x == n) = true
    · have en : x = n := by simpa using e
      subst en
      by_cases hq : q = .free
      · subst hq; exact List.mem_cons_self
      · have hqf : (q == NameKind.free) = false := by simpa using hq
        simp only [hqf, Bool.false_and, Bool.false_eq_true, if_false, beq_self_eq_true] at h
        have h' : q = k := Option.some.inj h
        rcases hk with z | z
        · exact absurd (h'.trans z) (hn (x, q) List.mem_cons_self)
        · exact absurd (h'.trans z) hq
    · have e' : (x == n) = false := by simpa using e
      refine List.mem_cons_of_mem _ (ih ?_)
      have e2 : (x == (if (q == NameKind.free && env.scope.kind == .function && env.kindOf n == some .cell) = true then (n, NameKind.cell) else (n, q)).1) = false := by rw [key]; exact e'
      rw [e2] at h
      exact h
theorem relabel_cap {env : Env} {x : Str} (hk : env.scope.kind = .function) (hc : env.kindOf x = some .cell) : ∀ {names : List (Str × NameKind)}, names.lookup x = some .free →
    (names.map fun (n, k) => if (k == NameKind.free && env.scope.kind == .function && env.kindOf n == some .cell) then (n, NameKind.cell) else (n, k)).lookup x = some .cell
  | [], h => by simp at h
  | (n, q) :: r, h => by
    have ih := @relabel_cap env x hk hc r
    rw [List.lookup_cons] at h
    rw [List.map_cons, List.lookup_cons]
    by_cases e : (x == n) = true
    · have en : x = n := by simpa using e
      subst en
      rw [e] at h
      have hq : q = .free := Option.some.inj h
      subst hq
      simp [hk, hc]
    · have e' : (x == n) = false := by simpa using e
      rw [e'] at h
      have key : (if (q == NameKind.free && env.scope.kind == .function && env.kindOf n == some .cell) = true then (n, NameKind.cell) else (n, q)).1 = n := by split <;> rfl
      have e2 : (x == (if (q == NameKind.free && env.scope.kind == .function && env.kindOf n == some .cell) = true then (n, NameKind.cell) else (n, q)).1) = false := by rw [key]; exact e'
      rw [e2]
      exact ih h

noncomputable def stB (own : List Str) (cap : List Nat) (σ : St) : St := (own.map fun _ => none) ++ cap.map fun i => (σ[i]?).getD none

section
variable {X : Cx} {pins : List (Addr × Obj)} {σ : St} {H : Hp} {s : Shared} {scope : Scope} {NB own : List Str} {cap : List Nat} {fp : List Addr} {C : Addr}
theorem Blk.cells (B : Blk X scope NB own cap) (ok : X.Ok) {x : Str} {c : Addr} (h : (clOf X.env.cells scope.names []).lookup x = some c) : X.env.cells.lookup x = some c ∧ (x, NameKind.free) ∈ scope.names := by
  rcases clOf_mem (PySem.mem_of_lookup h) with q | ⟨q, e⟩
  · simp at q
  · obtain ⟨d, hd⟩ := ok.has x (.inl (B.free (x, .free) q rfl))
    have e : c = (X.env.cells.lookup x).getD 0 := e
    rw [hd] at e
    refine ⟨?_, q⟩
    rw [hd, e]; rfl
theorem Blk.cell (B : Blk X scope NB own cap) (ok : X.Ok) {x : Str} (h : (x, NameKind.free) ∈ scope.names) : ∃ c, (clOf X.env.cells scope.names []).lookup x = some c := lookup_of_mem (clOf_has h)
theorem Blk.start (B : Blk X scope NB own cap) (I : Inv X pins σ H s) (hf : ∀ b ∈ fp, FpOk X pins H b) (hfs : ∀ b ∈ fp, ∃ o, s.heap.get? b = some o) {h' : Heap} {tk : Nat} {m : Str → Option Value} (hC : s.heap.objs.size ≤ C)
    (k : ∀ b o, s.heap.get? b = some o → h'.get? b = some o) (hn : h'.Ns C m) :
    Inv (cxB X NB own scope C fp s H) [] (stB own cap σ) H { s with heap := h', toks := tk } := by
  have hlen : NB.length = own.length + cap.length := by rw [B.nb]; simp
  have okB : (cxB X NB own scope C fp s H).Ok := by
    refine ⟨I.ok.mod, B.kind, I.ok.glob, I.ok.blt, hC, fun x y c h1 h2 => I.ok.inj x y c (B.cells I.ok h1).1 (B.cells I.ok h2).1, fun x hx => ?_, fun x c h1 h2 => ?_, I.ok.hd, I.ok.frames, .inl rfl, fun b hb => ⟨?_, fun x c h => ?_⟩, I.bs, Nat.le_trans I.ok.bsz I.sz, fun b o e hb => ?_, fun b hb z => ?_, I.stack, I.stkFree⟩
    · have : (x, NameKind.free) ∈ scope.names := by
        rcases hx with z | z
        · exact relabel_free (.inl rfl) B.nocell z
        · exact relabel_free (.inr rfl) B.nocell z
      exact B.cell I.ok this
    · have hx : x ∈ own := by simpa [cxB] using h1
      have q := B.owns x hx _ (B.cells I.ok h2).2 rfl
      exact absurd q (by simp)
    · obtain ⟨o, e⟩ := hfs b hb
      exact Nat.ne_of_lt (Nat.lt_of_lt_of_le (Heap.lt_size e) hC)
    · exact (hf b hb).2.2.2.2.1 x c (B.cells I.ok h).1
    · have hb : b ∈ fp := hb
      rcases (hf b hb).2.2.2.1 with z | z
      · exact I.ok.noex b o e z
      · exact absurd (Nat.lt_of_lt_of_le (Heap.lt_size e) (Nat.le_trans I.ok.bsz z)) (Nat.lt_irrefl _)
    · rcases List.mem_cons.mp (I.stkSub b z) with z | z
      · exact (hf b hb).2.1 z
      · exact (hf b hb).2.2.1 z
  refine ⟨okB, rfl, I.bare, Un.kept k, ⟨m, hn, fun i x v e1 e2 e3 => ?_⟩, fun x c h => ?_, I.hok.fresh hC, fun x c h => I.freeC x c (B.cells I.ok h).1, fun p hp => absurd (show p ∈ ([] : List (Addr × Obj)) from hp) (by simp), I.hok.kept k, ?_⟩
  · have e1 : NB[i]? = some x := e1
    have hi : ¬ i < own.length := fun hi => by
      unfold stB at e2
      rw [List.getElem?_append_left (by simpa using hi), List.getElem?_map] at e2
      cases q : own[i]? <;> rw [q] at e2 <;> cases e2
    unfold stB at e2
    rw [List.getElem?_append_right (by simpa using hi), List.getElem?_map] at e2
    rw [B.nb, List.getElem?_append_right (by omega), List.getElem?_map] at e1
    simp only [List.length_map] at e2
    cases q : cap[i - own.length]? with
    | none => rw [q] at e1; cases e1
    | some j =>
      rw [q] at e1 e2
      have ex : X.N.getD j "" = x := Option.some.inj e1
      have ev : (σ[j]?).getD none = some v := Option.some.inj e2
      obtain ⟨hj, hjf⟩ := B.caps j (List.mem_of_getElem? q)
      rw [ex] at hjf
      have hN : X.N[j]? = some x := by rw [← ex, List.getD_eq_getElem?_getD, List.getElem?_eq_getElem hj]; rfl
      have hσ : σ[j]? = some (some v) := by
        cases z : σ[j]? with
        | none => rw [z] at ev; cases ev
        | some u => rw [z] at ev; exact congrArg some ev
      have hmem : (x, NameKind.free) ∈ scope.names := PySem.mem_of_lookup hjf
      have hkc := B.free _ hmem rfl
      obtain ⟨m0, hn0, hl⟩ := I.loc
      obtain ⟨u, r, l⟩ := hl j x v hN hσ (.inr (.inl hkc))
      refine ⟨u, r, .inr ⟨.inl (relabel_cap B.outk hkc hjf), ?_⟩⟩
      obtain ⟨c, hc⟩ := B.cell I.ok hmem
      refine ⟨c, hc, ?_⟩
      rcases l with ⟨z, _⟩ | ⟨_, c', hc', ⟨oc, hoc, hd⟩⟩
      · rw [show X.env.kindOf x = some .cell from hkc] at z; cases z
      · have := (B.cells I.ok hc).1
        rw [hc'] at this
        have : c' = c := Option.some.inj this
        subst this
        exact ⟨oc, k _ _ hoc, hd⟩
  · obtain ⟨v, oc, hoc, hd⟩ := I.cell x c (B.cells I.ok h).1
    exact ⟨v, oc, k _ _ hoc, hd⟩
  · show (stB own cap σ).length = NB.length
    unfold stB
    rw [hlen]; simp
theorem Blk.done (B : Blk X scope NB own cap) (I : Inv X pins σ H s) (hf : ∀ b ∈ fp, FpOk X pins H b) {σB : St} {H' : Hp} {s' : Shared} {h'' : Heap} {D : Addr} {ys : List V} {its : List Value} {n : Nat} (hC : s.heap.objs.size ≤ C) (hD : s.heap.objs.size ≤ D) (hDC : D ≠ C)
    (J : Inv (cxB X NB own scope C fp s H) [] σB H' s') (hn : H' D = none) (e : s'.heap.get? D = some { cls := .type "list", data := .seq its.toArray n }) (hv : Vals ys its) (hz : ys.length ≤ sizeLine)
    (sb : Heap.SameBut C s'.heap h'') : Inv X pins σ (upd H' D (.lst ys)) { s' with heap := h'' } := by
  have un : Un (frs X.stack) fp H H' s.heap s'.heap := J.base
  have neC : ∀ {b o}, s.heap.get? b = some o → b ≠ C := fun q => Nat.ne_of_lt (Nat.lt_of_lt_of_le (Heap.lt_size q) hC)
  have neD : ∀ {b o}, s.heap.get? b = some o → b ≠ D := fun q => Nat.ne_of_lt (Nat.lt_of_lt_of_le (Heap.lt_size q) hD)
  have hCn : H' C = none := J.free
  refine I.call' (s' := { s' with heap := h'' }) (ch := fp) J.os ⟨fun b o q n hb hx => ?_, fun b o q n hb hx => ?_, fun b o q n hx => ?_, fun b o q hx => ?_, fun b xs q => ?_, fun b o u q => ?_, fun b ps q => ?_⟩ (fun b u q => ?_) J.bare fun b hb => ?_
  · exact (sb.2 b (neC q)).trans (un.keep b o q n hb hx)
  · obtain ⟨sl, r⟩ := un.slot b o q n hb hx
    exact ⟨sl, (sb.2 b (neC q)).trans r⟩
  · rw [upd_ne (neD q)]
    exact un.free b o q n hx
  · obtain ⟨o', r⟩ := un.there b o q hx
    exact ⟨o', (sb.2 b (neC q)).trans r⟩
  · have r := un.tups b xs q
    rw [upd_ne (ne_of_none r hn)]
    exact r
  · have r := un.frzs b o u q
    rw [upd_ne (ne_of_none r hn)]
    exact r
  · obtain ⟨more, r⟩ := un.tbls b ps q
    exact ⟨more, by rw [upd_ne (ne_of_none r hn)]; exact r⟩
  · by_cases hb : b = D
    · subst hb
      rw [upd_same] at q
      cases q
      exact ⟨hz, its, n, hv, (sb.2 b hDC).trans e⟩
    · rw [upd_ne hb] at q
      refine (J.hok b u q).stay (fun c v hc r => (sb.2 c ?_).trans r) (fun c r => ?_) fun c xs r => ?_
      · rcases hc with z | z
        · rw [z]; exact ne_of_none q hCn
        · exact ne_of_none z hCn
      · rw [upd_ne (ne_of_none r hn)]; exact r
      · rw [upd_ne (ne_of_none r hn)]; exact r
  · obtain ⟨_, f1, _, f3, f4, f5⟩ := hf b hb
    exact ⟨f3, f1, f4, f5⟩
end

noncomputable def PIf (X : Cx) (ifs : List Expr) (t : TT) : Prop :=
  ∀ (pins : List (Addr × Obj)) (s : Shared) (σ : St) (H : Hp) (Q : Bool → Hp → Prop), Inv X pins σ H s → t σ H Q →
    wpAny (model X.prog X.w) X.A (forIn ifs true fun c r => if r = true then do let ok ← isTrue c X.env (eval c X.env); pure (ForInStep.yield ok) else pure (ForInStep.yield r)) (TP X pins σ Q) X.xe s
noncomputable def tYes : TT := fun _ H Q => Q true H
theorem pifs_nil {X : Cx} : PIf X [] tYes := fun _ _ _ H _ I h => wpAny_tests_nil ⟨H, I, h⟩
theorem pifs_one {X : Cx} {c : Expr} {t : TT} (h : PT X c t) : PIf X [c] t := fun pins s σ H Q I q => wpAny_tests_one (h pins s σ H Q I q)

section
variable {prog : Program} {w : World} {A : Around} {R : Result → Shared → Prop} {s : Shared}
noncomputable abbrev noE : Value → Shared → Prop := fun _ _ => False
theorem comp_loop {elt tg iter : Expr} {ifs : List Expr} {scope : Scope} {pos : Pos} {it acc : Value} {env : Env} (I : Nat → Shared → Prop)
    (turn : ∀ n s, I n s → wpAny (model prog w) A (pyNext it) (fun r s₁ => match r with
      | none => R (.ok .next) s₁
      | some v => wpAny (model prog w) A (letOwnedTupleGo tg it v) (fun _ s₀ => wpAny (model prog w) A (assign tg env v) (fun _ s₂ =>
          wpAny (model prog w) A (forIn ifs true fun c r => if r = true then do let ok ← isTrue c env (eval c env); pure (ForInStep.yield ok) else pure (ForInStep.yield r)) (fun ok s₃ =>
            if ok = true then wpAny (model prog w) A (eval elt env) (fun x s₄ => wpAny (model prog w) A (call (.builtin "list.append") [acc, x]) (fun _ s₅ => ∃ m, m < n ∧ I m s₅) noE s₄) noE s₃
            else ∃ m, m < n ∧ I m s₃) noE s₂) noE s₀) noE s₁) noE s)
    (n : Nat) (h : I n s) : codeAny (model prog w) A (.compLoop (.ListComp elt [⟨tg, iter, ifs, 0⟩] scope pos) 0 it acc env) R s := by
  refine codeAny_loop rfl I (fun n s hI => ?_) n h
  show wpAny _ A ((compTurn (.ListComp elt [⟨tg, iter, ifs, 0⟩] scope pos) 0 it acc env).onRaise (fun x => do noteFrame x env; theTreesLotGoes x)) _ _ s
  refine wpAny_noted ?_
  rw [compTurn_list]
  refine wpAny_bind (wpAny_standAt (wpAny_bind (wpAny_mono (turn n s hI) (fun r s₁ h₁ => ?_) fun _ _ z => False.elim z)))
  cases r with
  | none => exact wpAny_pure h₁
  | some v =>
    refine wpAny_bind (wpAny_mono h₁ (fun _ s₀ h₀ => wpAny_bind (wpAny_mono h₀ (fun _ s₂ h₂ => wpAny_bind (wpAny_mono h₂ (fun ok s₃ h₃ => ?_) fun _ _ z => False.elim z)) fun _ _ z => False.elim z)) fun _ _ z => False.elim z)
    cases ok with
    | false => exact wpAny_pure ⟨rfl, h₃⟩
    | true => exact wpAny_bind (wpAny_bind (wpAny_mono h₃ (fun x s₄ h₄ => wpAny_bind (wpAny_mono h₄ (fun _ s₅ h₅ => wpAny_pure (wpAny_pure ⟨rfl, h₅⟩)) fun _ _ z => False.elim z)) fun _ _ z => False.elim z))
end

noncomputable def CompW (own : List Str) (cap : List Nat) (g : TG) (ti : TT) (te : TE) (Q : VK) (σ : St) (J : It) (H1 : Hp) : Prop := ∃ W : Nat → Nat → List V → St → Hp → Prop, (∃ m, W 0 m [] (stB own cap σ) H1) ∧ ∀ i m ys σ H, W i m ys σ H →
  (J.stop i H ∧ ys.length ≤ sizeLine ∧ ∀ D, H D = none → Q (.ref D) (upd H D (.lst ys))) ∨
  (J.go i H ∧ ys.length < sizeLine ∧ ∀ x H', J.yld i H x H' → g x σ H' fun σ2 H2 => ti σ2 H2 fun b H3 => if b = true then te σ2 H3 fun y H4 => ∃ m', m' < m ∧ W (i + 1) m' (ys ++ [y]) σ2 H4 else ∃ m', m' < m ∧ W (i + 1) m' ys σ2 H3)
noncomputable def tComp (own : List Str) (cap : List Nat) (wi : TI) (g : TG) (ti : TT) (te : TE) : TE := fun σ H Q => wi σ H fun J H1 => CompW own cap g ti te Q σ J H1

theorem pe_comp {X : Cx} {elt iter tg : Expr} {ifs : List Expr} {scope : Scope} {pos : Pos} {NB own : List Str} {cap : List Nat} {wi : TI} {g : TG} {ti : TT} {te : TE} (B : Blk X scope NB own cap) (hc : X.calm = true) (hi : PI X tg iter wi)
    (hg : ∀ C fp s₀ H₀, PG (cxB X NB own scope C fp s₀ H₀) tg g) (ht : ∀ C fp s₀ H₀, PIf (cxB X NB own scope C fp s₀ H₀) ifs ti) (he : ∀ C fp s₀ H₀, PE (cxB X NB own scope C fp s₀ H₀) elt te)
    (hs : ∀ x, foldedSetIterable iter X.env x = pure x := by intro _; rfl) : PE X (.ListComp elt [⟨tg, iter, ifs, 0⟩] scope pos) (tComp own cap wi g ti te) := by
  intro pins s σ H Q I0 h
  rw [eval_ListComp]
  have hclos := closureFor_is (env := X.env) (scope := scope) fun y hy e => I0.ok.has y.1 (.inl (B.free y hy e))
  refine wpAny_comprehension_free (use := none) rfl hs hclos B.kind B.names (thn (hi pins s σ H _ I0 h) fun v s1 h1 => thn h1 fun itv s2 h2 => ?_)
  obtain ⟨it, fp, tn, J, H2, rfl, I, T, st2, f2, W, ⟨m0, w0⟩, turn⟩ := h2
  refine wpAny_newList ?_
  refine wpAny_newFunctionEnv B.nocell (by intro y hy; simp at hy) (fun h₁ hns₁ hsb₁ => ?_) B.kind
  dsimp only at hns₁ hsb₁ ⊢
  generalize hP : s2.heap.push { cls := .type "list", dict := none, data := .seq ([] : List Value).toArray } = P at hns₁ hsb₁ ⊢
  have hC : P.objs.size = s2.heap.objs.size + 1 := by rw [← hP, Heap.size_push]
  have hDC : s2.heap.objs.size ≠ P.objs.size := by rw [hC]; exact Nat.ne_of_lt (Nat.lt_succ_self _)
  have hCle : s2.heap.objs.size ≤ P.objs.size := by rw [hC]; exact Nat.le_succ _
  have old : ∀ b o, s2.heap.get? b = some o → h₁.get? b = some o := fun b o e => by
    refine (hsb₁.2 b ?_).trans (Heap.get?_push_of_some _ (hP ▸ Heap.get?_push_of_some _ e))
    exact Nat.ne_of_lt (Nat.lt_of_lt_of_le (Heap.lt_size e) hCle)
  have hD : h₁.get? s2.heap.objs.size = some { cls := .type "list", data := .seq ([] : List Value).toArray 0 } := by
    refine (hsb₁.2 _ hDC).trans (Heap.get?_push_of_some _ ?_)
    rw [← hP]
    exact Heap.get?_push_size _ rfl
  have hfs : ∀ b ∈ fp, ∃ o, s2.heap.get? b = some o := fun b hb => let ⟨o, e, _⟩ := T.obj _ _ st2 b hb; ⟨o, e⟩
  have st4 : tn 0 h₁ := T.keep _ _ _ st2 fun b _ o e => old b o e
  generalize htk : s2.toks + ([] : List (Str × Value)).length = tk4
  have I4 := B.start (C := P.objs.size) (tk := tk4) I f2 hfs hCle old hns₁
  have fOk : ∀ {H' : Hp} {b : Addr} {ob : Obj}, b ∈ fp → H' b = none → FpOk (cxB X NB own scope P.objs.size fp s2 H2) [(s2.heap.objs.size, ob)] H' b := fun {H' b ob} hb hn => by
    obtain ⟨o, e⟩ := hfs b hb
    refine ⟨hn, (I4.ok.exf b hb).1, I4.ok.exfs b hb, .inl hb, (I4.ok.exf b hb).2, fun p hp => ?_⟩
    have ep : p = (s2.heap.objs.size, ob) := List.mem_singleton.mp (show p ∈ [(s2.heap.objs.size, ob)] from hp)
    rw [ep]
    exact fun z => absurd (Heap.lt_size e) (by rw [← z]; exact Nat.lt_irrefl _)
  have dnf : s2.heap.objs.size ∉ frs X.stack := fun z => by
    rcases List.mem_cons.mp (I.stkSub _ z) with z | z
    · exact absurd I.lt (by rw [← z]; exact Nat.lt_irrefl _)
    · exact I.nofs (Nat.le_refl _) z
  have I3D : ∀ {σ3 : St} {H3 : Hp} {s3 : Shared} {its : List Value} {k : Nat}, Inv (cxB X NB own scope P.objs.size fp s2 H2) [] σ3 H3 s3 → s3.heap.get? s2.heap.objs.size = some { cls := .type "list", data := .seq its.toArray k } → H3 s2.heap.objs.size = none →
      Inv (cxB X NB own scope P.objs.size fp s2 H2) [(s2.heap.objs.size, { cls := .type "list", data := .seq its.toArray k })] σ3 H3 s3 := fun I3 e n => I3.pins_of fun p hp => by
    have ep := List.mem_singleton.mp hp
    subst ep
    exact ⟨e, n, hDC, dnf, fun v z => by cases z⟩
  have ndf : s2.heap.objs.size ∉ fp := fun z => by
    obtain ⟨o, e⟩ := hfs _ z
    exact absurd (Heap.lt_size e) (Nat.lt_irrefl _)
  have nCD : ∀ x c, (cxB X NB own scope P.objs.size fp s2 H2).env.cells.lookup x = some c → c ≠ s2.heap.objs.size := fun x c e z => by
    obtain ⟨v, o, ho, _⟩ := I.cell x c (B.cells I.ok e).1
    rw [z] at ho
    exact absurd (Heap.lt_size ho) (Nat.lt_irrefl _)
  have loop : ∀ s₃ : Shared, s₃ = { s2 with heap := h₁, toks := tk4 } → codeAny (model X.prog X.w) X.A (.compLoop (.ListComp elt [⟨tg, iter, ifs, 0⟩] scope pos) 0 (.ref it) (.ref s2.heap.objs.size) (cxB X NB own scope P.objs.size fp s2 H2).env)
      (compPost (model X.prog X.w) X.A X.xe none (EP X pins σ Q) (.ref s2.heap.objs.size) P.objs.size) s₃ := by
    rintro s₃ rfl
    refine comp_loop (fun n s' => ∃ i σB H' ys its k, Inv (cxB X NB own scope P.objs.size fp s2 H2) [] σB H' s' ∧ tn i s'.heap ∧ (∀ b ∈ fp, H' b = none) ∧ s'.heap.get? s2.heap.objs.size = some { cls := .type "list", data := .seq (its : List Value).toArray k } ∧ Vals ys its ∧ H' s2.heap.objs.size = none ∧ W i n ys σB H') ?_ m0
      ⟨0, stB own cap σ, H2, [], [], 0, I4, st4, fun b hb => (f2 b hb).1, hD, .nil, I.hok.fresh (Nat.le_refl _), w0⟩
    rintro n s3 ⟨i, σ3, H3, ys, its, k, I3, st3, fr3, hD3, rv, hn3, w3⟩
    rcases turn i n ys σ3 H3 w3 with ⟨stop, hz, q⟩ | ⟨go, hz, step⟩
    · refine thn (T.done (cxB X NB own scope P.objs.size fp s2 H2) rfl rfl rfl hc i _ s3 σ3 H3 noE (I3D I3 hD3 hn3) (fun b hb => fOk hb (fr3 b hb)) st3 stop) fun r s4 zq1 => ?_
      obtain ⟨hr, I4'⟩ := zq1
      subst hr
      have hD4 : s4.heap.get? s2.heap.objs.size = some { cls := .type "list", data := .seq (its : List Value).toArray k } := (I4'.pin (s2.heap.objs.size, _) (List.mem_append_right _ (List.mem_singleton.mpr rfl))).1
      have I5 : Inv (cxB X NB own scope P.objs.size fp s2 H2) [] σ3 H3 s4 := I4'.pins_of fun p hp => absurd (show p ∈ ([] : List (Addr × Obj)) from hp) (by simp)
      obtain ⟨mC, hnC, _⟩ := I5.loc
      exact ⟨mC, hnC, fun h'' sb => ⟨.ref s2.heap.objs.size, _, B.done I f2 hCle (Nat.le_refl _) hDC I5 hn3 hD4 rv hz sb, rfl, q _ hn3⟩⟩
    · refine thn (T.item (cxB X NB own scope P.objs.size fp s2 H2) rfl rfl rfl hc i _ s3 σ3 H3 noE (I3D I3 hD3 hn3) (fun b hb => fOk hb (fr3 b hb)) st3 go) fun r s4 zq2 => ?_
      obtain ⟨u, hr, h4⟩ := zq2
      subst hr
      refine thn h4 fun _ s5 zq3 => ?_
      obtain ⟨x, H5, I5, r5, y5, st5, fr5⟩ := zq3
      have I5' := I5.pinned (fun b hb => fOk hb (fr5 b hb)) (T.obj _ _ st5)
      refine thn (hg _ fp s2 H2 _ s5 σ3 H5 x u _ I5' r5 (step x H5 y5)) fun _ s6 zq4 => ?_
      obtain ⟨σ6, H6, I6, q6⟩ := zq4
      refine thn (ht _ fp s2 H2 _ s6 σ6 H6 _ I6 q6) fun b s7 zq5 => ?_
      obtain ⟨H7, I7, q7⟩ := zq5
      have pinned : ∀ {σ8 : St} {H8 : Hp} {s8 : Shared}, Inv (cxB X NB own scope P.objs.size fp s2 H2) ([(s2.heap.objs.size, { cls := .type "list", data := .seq (its : List Value).toArray k })] ++ pinsAt fp s5.heap) σ8 H8 s8 →
          tn (i + 1) s8.heap ∧ (∀ b ∈ fp, H8 b = none) ∧ s8.heap.get? s2.heap.objs.size = some { cls := .type "list", data := .seq (its : List Value).toArray k } ∧ H8 s2.heap.objs.size = none := fun {σ8 H8 s8} I8 => by
        refine ⟨T.keep _ _ _ st5 fun b hb o e => (I8.pin (b, o) (List.mem_append_right _ (List.mem_append_right _ (mem_pinsAt hb e)))).1, fun b hb => ?_, ?_, ?_⟩
        · obtain ⟨o, e, d⟩ := T.obj _ _ st5 b hb
          exact (I8.pin (b, o) (List.mem_append_right _ (List.mem_append_right _ (mem_pinsAt hb e)))).2.1
        · exact (I8.pin (s2.heap.objs.size, _) (List.mem_append_right _ (List.mem_append_left _ (List.mem_singleton.mpr rfl)))).1
        · exact (I8.pin (s2.heap.objs.size, _) (List.mem_append_right _ (List.mem_append_left _ (List.mem_singleton.mpr rfl)))).2.1
      have nopin : ∀ {pp : List (Addr × Obj)} {σ8 : St} {H8 : Hp} {s8 : Shared}, Inv (cxB X NB own scope P.objs.size fp s2 H2) pp σ8 H8 s8 → Inv (cxB X NB own scope P.objs.size fp s2 H2) [] σ8 H8 s8 := fun I8 => I8.pins_of fun p hp => absurd (show p ∈ ([] : List (Addr × Obj)) from hp) (by simp)
      cases b with
      | false =>
        rw [if_neg Bool.false_ne_true] at q7 ⊢
        obtain ⟨m', hm, w7⟩ := q7
        obtain ⟨p1, p2, p3, p4⟩ := pinned I7
        exact ⟨m', hm, i + 1, σ6, H7, ys, its, k, nopin I7, p1, p2, p3, rv, p4, w7⟩
      | true =>
        rw [if_pos rfl] at q7 ⊢
        refine thn (he _ fp s2 H2 _ s7 σ6 H7 _ I7 q7) fun yv s8 zq6 => ?_
        obtain ⟨y, H8, I8, r8, m', hm, w8⟩ := zq6
        obtain ⟨p1, p2, p3, p4⟩ := pinned I8
        refine call_meets F.slot_list_append ⟨_, p3, rfl⟩ F.entry_list_append (F.args_list_append_2 _ _) (PySem.list_append s2.heap.objs.size its.toArray k yv (by rw [List.size_toArray, ← rv.length]; omega)) ⟨p3, ?_⟩
        have q := PySem.IsL.update p3 fun a => a.push yv
        have ea : its.toArray.push yv = (its ++ [yv]).toArray := by simp
        rw [ea] at q
        have I9 : Inv (cxB X NB own scope P.objs.size fp s2 H2) [] σ6 H8 { s8 with heap := s8.heap.update s2.heap.objs.size (Obj.mapSeq fun a => a.push yv), toks := s8.toks } :=
          (nopin I8).turned (it := s2.heap.objs.size) (fun b o hb e => (Heap.get?_update_other s8.heap _ (Ne.symm hb)).trans e) p4 hDC (.inr (Nat.le_refl _)) (fun x c e => nCD x c e) fun p hp => absurd (show p ∈ ([] : List (Addr × Obj)) from hp) (by simp)
        refine ⟨m', hm, i + 1, σ6, H8, ys ++ [y], its ++ [yv], _, I9, ?_, p2, q, rv.append (.cons r8 .nil), p4, w8⟩
        refine T.keep _ _ _ p1 fun b hb o e => (Heap.get?_update_other s8.heap _ ?_).trans e
        intro z
        rw [z] at ndf
        exact ndf hb
  exact codeAny_compStart_list (loop _ rfl) (T.self X.A 0 _ _ _ st4 (loop _ rfl))

theorem comp_by {own : List Str} {cap : List Nat} {J : It} {g : TG} {ti : TT} {te : TE} {σ : St} {H : Hp} {Q : VK} (n : Nat) (Pv : Nat → List V → St → Hp → Prop) (h0 : Pv 0 [] (stB own cap σ) H) (hz : ∀ i ys σ H, i ≤ n → Pv i ys σ H → ys.length ≤ i) (hn : n ≤ sizeLine)
    (hgo : ∀ i ys σ H, i < n → Pv i ys σ H → J.go i H) (hst : ∀ ys σ H, Pv n ys σ H → J.stop n H)
    (hs : ∀ i ys σ H x H' (N : List V → St → Hp → Prop), i < n → Pv i ys σ H → J.yld i H x H' → (∀ ys' σ' H'', Pv (i + 1) ys' σ' H'' → N ys' σ' H'') → g x σ H' fun σ2 H2 => ti σ2 H2 fun b H3 => if b = true then te σ2 H3 fun y H4 => N (ys ++ [y]) σ2 H4 else N ys σ2 H3)
    (hd : ∀ ys σ H D, Pv n ys σ H → H D = none → Q (.ref D) (upd H D (.lst ys))) :
    CompW own cap g ti te Q σ J H := by
  refine ⟨fun i m ys σ H => m = n - i ∧ i ≤ n ∧ Pv i ys σ H, ⟨n, by simp, Nat.zero_le _, h0⟩, ?_⟩
  rintro i m ys σ H ⟨rfl, hi, p⟩
  have hl := hz i ys σ H hi p
  by_cases hlt : i < n
  · refine .inr ⟨hgo i ys σ H hlt p, by omega, fun x H' y => ?_⟩
    exact hs i ys σ H x H' (fun ys' σ' H'' => ∃ m', m' < n - i ∧ m' = n - (i + 1) ∧ i + 1 ≤ n ∧ Pv (i + 1) ys' σ' H'') hlt p y fun ys' σ' H'' q => ⟨n - (i + 1), by omega, rfl, hlt, q⟩
  · have e : i = n := by omega
    subst e
    exact .inl ⟨hst ys σ H p, by omega, fun D hD => hd ys σ H D p hD⟩
end L2
set_option Elab.async false
set_option linter.all false
set_option maxRecDepth 100000
namespace L2
open PySem PySem.Spec PyProof.Rows

noncomputable def Its (z : Str) : It := ⟨fun i _ => i < z.cps.size, fun i H x H' => H' = H ∧ ∃ c, z.cps[i]? = some c ∧ x = .str ⟨#[c]⟩, fun i _ => i = z.cps.size⟩
theorem turn_of_walks {P : Program} {w : World} {K : PySem.W.Frag} {tg : Expr} {it n : Nat} {Pv : Nat → Value → Prop} {st : Nat → Heap → Prop} {J : It} {T : String} {fl : Nat → Array Value}
    (W : ∀ A : Around, A.handled = none → Walks P w A it [it] [it] n Pv st) (hst : ∀ i h, st i h → ∃ o, h.get? it = some o ∧ o.cls = .type T ∧ o.data = .fields (fl i))
    (hT : ["enumerate", "zip", "dict_itemiterator", "dict_reverseitemiterator", "odict_iterator", "itertools.zip_longest", "itertools.pairwise"].contains T = false)
    (hgo : ∀ i H, J.go i H → i < n) (hstop : ∀ i H, J.stop i H → i = n) (hy : ∀ i H u, J.go i H → Pv i u → ∃ x, RelV x u ∧ J.yld i H x H)
    (hself : ∀ (A : Around) (i : Nat) (s : Shared) (Q : Value → Shared → Prop) (E : Value → Shared → Prop), st i s.heap → Q (.ref it) s → wpAny (model P w) A (pyIter (.ref it)) Q E s) : Turn P w K tg J [it] it st where
  mem := by simp
  obj := fun i h s b hb => by
    have e : b = it := by simpa using hb
    subst e
    obtain ⟨o, e, c, d⟩ := hst i h s
    exact ⟨o, e, fun v z => by rw [d] at z; cases z⟩
  keep := fun i h h' s k => (W {} rfl).frame i h h' s k
  item := by
    intro X hP hw hK hc i pins s σ H E I hf s0 hg
    subst hP hw hK
    obtain ⟨f0, f1, f2, f3, f4, f5⟩ := hf it (by simp)
    refine (W X.A (I.ok.hd hc)).item i s _ _ (hgo i H hg) s0 fun v h' tk hv st' kk => ?_
    have I1 : Inv X pins σ H { s with heap := h', toks := tk } := I.turned (fun b o hb e => kk b o (by simpa using hb) e) f0 f1 f3 f4 f5
    obtain ⟨o, e, c, d⟩ := hst _ _ st'
    obtain ⟨x, rx, yx⟩ := hy i H v hg hv
    exact ⟨v, rfl, go_of (s := { s with heap := h', toks := tk }) e c d hT ⟨x, H, I1, rx, yx, st', fun b hb => (hf b hb).1⟩⟩
  done := by
    intro X hP hw hK hc i pins s σ H E I hf s0 hg
    subst hP hw hK
    obtain ⟨f0, f1, f2, f3, f4, f5⟩ := hf it (by simp)
    have e := hstop i H hg
    subst e
    exact (W X.A (I.ok.hd hc)).done s _ _ s0 fun h' tk kk => ⟨rfl, I.turned (fun b o hb e => kk b o (by simpa using hb) e) f0 f1 f3 f4 f5⟩
  self := hself

section
variable {X : Cx} {tg : Expr}
noncomputable def iStr (tl : TE) : TI := fun σ H R => tl σ H fun x H1 => ∃ z, x = .str z ∧ R (Its z) H1
theorem its_yld {z : Str} {i : Nat} {H : Hp} {u : Value} (h : SignAt z i u) : ∃ x, RelV x u ∧ (Its z).yld i H x H := by
  obtain ⟨c, t, e, rfl⟩ := h
  exact ⟨.str ⟨#[c]⟩, ⟨t, rfl⟩, rfl, c, e, rfl⟩
theorem pi_str {l : Expr} {tl : TE} (hl : PE X l tl) : PI X tg l (iStr tl) := by
  intro pins s σ H R I h
  refine thn (hl pins s σ H _ I h) fun v s1 zq1 => ?_
  obtain ⟨x, H1, I1, r1, q1⟩ := zq1
  obtain ⟨z, rfl, q⟩ := q1
  obtain ⟨t, rfl⟩ := r1
  have fp : ∀ b ∈ [s1.heap.objs.size], FpOk X pins H1 b := fun b hb => by
    have e : b = s1.heap.objs.size := by simpa using hb
    subst e
    exact I1.fpOk (Nat.le_refl _) (I1.hok.fresh (Nat.le_refl _))
  cases ha : z.cps.all (· < 128)
  · refine wpAny_pyIter_wide ha ⟨s1.heap.objs.size, [s1.heap.objs.size], _, Its z, H1, rfl, I1.kept (t' := s1.toks) fun b o e => Heap.get?_push_of_some _ e,
      turn_of_walks (T := "str_iterator") (fl := fun i => #[.str z t, .int i 0]) (fun A hh => Walks.strWide hh _ z t) (fun i h st => st) (by decide) (fun i H g => g) (fun i H g => g) (fun i H u _ hu => its_yld hu) (fun A i s Q E st h => wpAny_pyIter_striter_wide st h), ⟨_, Heap.get?_push_size _ rfl, rfl, rfl⟩, fp, q⟩
  · refine wpAny_pyIter_ascii ha ⟨s1.heap.objs.size, [s1.heap.objs.size], _, Its z, H1, rfl, I1.kept (t' := s1.toks) fun b o e => Heap.get?_push_of_some _ e,
      turn_of_walks (T := "str_ascii_iterator") (fl := fun i => #[.str z t, .int i 0]) (fun A hh => Walks.strAscii hh _ z t) (fun i h st => st) (by decide) (fun i H g => g) (fun i H g => g) (fun i H u _ hu => its_yld hu) (fun A i s Q E st h => wpAny_pyIter_striter_ascii st h), ⟨_, Heap.get?_push_size _ rfl, rfl, rfl⟩, fp, q⟩

inductive rSlS (x : V) (lo : Option Int) (hi : Option Int) (H : Hp) (Q : VK) : Prop
  | mk : ∀ z, (x = .str z) → (z.length ≤ sizeLine) → (Q (.str (Txt.slice z lo hi)) H) → rSlS x lo hi H Q
theorem sl_str : SlR X rSlS := by
  intro pins s σ H x v vl vu lo hi sl Q I rx hs pl pu h
  obtain ⟨z, rfl, hz, q⟩ := h
  obtain ⟨t, rfl⟩ := rx
  have fin : ∀ (lo hi : Option Int), Q (.str (Txt.slice z lo hi)) H → ∀ t' k, EP X pins σ Q (.str (Txt.slice z lo hi) t') { s with toks := k } := fun lo hi q t' k => ⟨.str _, H, I.tok _, ⟨_, rfl⟩, q⟩
  refine ⟨"str", _, F.slot_str_getitem.lookup, typeIs_str _ _ _, ?_⟩
  cases pl with
  | none =>
    cases pu with
    | none => exact wpAny_getItem_str_slice (l := none) (u := none) (st := none) hs rfl (post_val_or_str ⟨Nat.le_trans (Txt.slice_le z _ _) hz, fun t' k => fin _ _ q t' k⟩)
    | int j uj => exact wpAny_getItem_str_slice (l := none) (u := some (j, uj)) (st := none) hs rfl (post_val_or_str ⟨Nat.le_trans (Txt.slice_le z _ _) hz, fun t' k => fin _ _ q t' k⟩)
  | int i ui =>
    cases pu with
    | none => exact wpAny_getItem_str_slice (l := some (i, ui)) (u := none) (st := none) hs rfl (post_val_or_str ⟨Nat.le_trans (Txt.slice_le z _ _) hz, fun t' k => fin _ _ q t' k⟩)
    | int j uj => exact wpAny_getItem_str_slice (l := some (i, ui)) (u := some (j, uj)) (st := none) hs rfl (post_val_or_str ⟨Nat.le_trans (Txt.slice_le z _ _) hz, fun t' k => fin _ _ q t' k⟩)

inductive rUpper (x : V) (vs : List V) (H : Hp) (Q : VK) : Prop
  | mk : ∀ z, (x = .str z) → (vs = []) → (z.length ≤ 5592405) → (Q (.str (Txt.upper z)) H) → rUpper x vs H Q
inductive rLower (x : V) (vs : List V) (H : Hp) (Q : VK) : Prop
  | mk : ∀ z, (x = .str z) → (vs = []) → (z.length ≤ 5592405) → (Q (.str (Txt.lower z)) H) → rLower x vs H Q
theorem mt_upper : MtR X "str.upper" rUpper := by
  intro pins s σ H x vs v us Q I rx rv h
  obtain ⟨z, rfl, rfl, hz, q⟩ := h
  obtain ⟨t, rfl⟩ := rx
  cases rv
  exact SCL.upper hz fun _ => ⟨.str _, H, I.tok _, ⟨_, rfl⟩, q⟩
theorem mt_lower : MtR X "str.lower" rLower := by
  intro pins s σ H x vs v us Q I rx rv h
  obtain ⟨z, rfl, rfl, hz, q⟩ := h
  obtain ⟨t, rfl⟩ := rx
  cases rv
  exact SCL.lower hz fun _ => ⟨.str _, H, I.tok _, ⟨_, rfl⟩, q⟩
theorem strsAre_of : ∀ {ys : List Str} {us : List Value}, Vals (ys.map V.str) us → StrsAre us ys
  | [], _, r => by
    rw [List.map_nil] at r
    cases r
    exact .nil
  | y :: ys, us, r => by
    rw [List.map_cons] at r
    cases r with
    | cons r1 r2 =>
      obtain ⟨t, e⟩ := r1
      subst e
      exact .cons y t (strsAre_of r2)
inductive rJoin (K : PySem.W.Frag) (x : V) (vs : List V) (H : Hp) (Q : VK) : Prop
  | mk : ∀ z p ys, (x = .str z) → (vs = [.ref p]) → (SqL K H p (ys.map V.str)) → ((ys.map (·.length)).sum + ys.length * z.length ≤ 16777216) → (Q (.str (Txt.join z ys)) H) → rJoin K x vs H Q
theorem mt_join : MtR X "str.join" (rJoin X.K) := by
  intro pins s σ H x vs v us Q I rx rv h
  obtain ⟨z, p, ys, rfl, rfl, hq, hz, q⟩ := h
  obtain ⟨t, rfl⟩ := rx
  obtain ⟨u, rfl, ru⟩ := vals1 rv
  cases ru
  obtain ⟨its, r, pl, _⟩ := I.list hq
  exact join_list pl.isList (by simpa using strsAre_of r) hz fun t' k => ⟨.str _, H, I.tok _, ⟨_, rfl⟩, q⟩


inductive op_mul_str_r  (x : V) (y : V) (H : Hp) (Q : VK) : Prop
  | mk : ∀ z n, (x = .str z) → (y = .int n) → (MulOk z n) → (Q (.str (Txt.mul z n)) H) → op_mul_str_r x y H Q
theorem op_mul_str : OpR X (binaryOp .Mult) op_mul_str_r := by
  intro pins s σ H x y v u Q I rx ry h
  obtain ⟨z, n, rfl, rfl, hz, q⟩ := h
  obtain ⟨t, rfl⟩ := rx
  obtain ⟨t', rfl⟩ := ry
  exact SB.mul hz fun t' k => ⟨.str _, H, I.tok _, ⟨_, rfl⟩, q⟩
end

theorem for_str {z : Str} {g : TG} {tb : TS} {D : Ends} {σ : St} {H : Hp} (Pv : Nat → St → Hp → Prop) (h0 : Pv 0 σ H)
    (hs : ∀ i c σ H, z.cps[i]? = some c → Pv i σ H → g (.str ⟨#[c]⟩) σ H fun σ2 H2 => tb { D with nx := Pv (i + 1), ct := Pv (i + 1), bk := D.nx } σ2 H2) (hd : ∀ σ H, Pv z.cps.size σ H → D.nx σ H) :
    ∃ W : Nat → Nat → St → Hp → Prop, (∃ m, W 0 m σ H) ∧ ∀ i m σ H, W i m σ H →
      ((Its z).stop i H ∧ D.nx σ H) ∨ ((Its z).go i H ∧ ∃ N : St → Hp → Prop, (∀ σ' H', N σ' H' → ∃ m', m' < m ∧ W (i + 1) m' σ' H') ∧ ∀ x H', (Its z).yld i H x H' → g x σ H' fun σ2 H2 => tb { D with nx := N, ct := N, bk := D.nx } σ2 H2) := by
  refine ⟨fun i m σ H => m = z.cps.size - i ∧ i ≤ z.cps.size ∧ Pv i σ H, ⟨z.cps.size, by simp, Nat.zero_le _, h0⟩, ?_⟩
  rintro i m σ H ⟨rfl, hi, p⟩
  by_cases hlt : i < z.cps.size
  · refine .inr ⟨hlt, Pv (i + 1), fun σ' H' p' => ⟨z.cps.size - (i + 1), by omega, rfl, hlt, p'⟩, fun x H' y => ?_⟩
    obtain ⟨e, c, hc, ex⟩ := y
    subst e ex
    exact hs i c σ _ hc p
  · have e : i = z.cps.size := by omega
    subst e
    exact .inl ⟨rfl, hd σ H p⟩
end L2
set_option Elab.async false
set_option linter.all false
set_option maxRecDepth 100000
namespace PySem
open Sem (wp)
open Builtin Builtin.SmallTypes
namespace F
theorem lookup_str_reversed : typeLookup (.type "str") "__reversed__" = pure none := by rw [typeLookup_type, builtinLookup_eq_fast]; kernel_rfl
theorem slot_rvs_init : Slot "reversed" "__init__" "object.__init__" :=
  .of (owner := "object") (n := "__init__") (by rw [typeLookup_type, builtinLookup_eq_fast]; kernel_rfl) (by decide +kernel) (by decide +kernel) (by decide +kernel)
    (by first | exact .inl (by decide +kernel) | exact .inr (by decide +kernel)) (by rw [isSubtype_type]; kernel_rfl)
theorem called_rvs : TypeCalled "reversed" "reversed.__new__" "object.__init__" :=
  ⟨by decide +kernel, create_reversed, ⟨_, _, mro_reversed⟩, made_reversed, plain_reversed_new, sub_reversed_self, slot_rvs_init⟩
end F
set_option maxHeartbeats 1000000 in
theorem meets_rvs (x : Str) (t : Tok) : Meets (Builtin.«reversed.__new__» ⟨[.type "reversed", .str x t], []⟩) (fun _ R s => ¬ (x.length : Int) ≥ 2 ^ 63 ∧
      ∀ tk, R (.ok (.ret (.ref s.heap.objs.size))) { s with heap := s.heap.push { cls := .type "reversed", data := .fields #[.str x t, rawInt ((x.length : Int) - 1)] }, toks := tk }) :=
  .of_wp fun prog w A R s h => by
    obtain ⟨hx, h⟩ := h
    unfold Builtin.«reversed.__new__»
    refine wpAny_bind (wpAny_of_eq (newClass_reversed _) ?_)
    try dsimp only
    refine wpAny_bind (wpAny_of_eq (a := ()) (by first | rfl | kernel_rfl) ?_)
    refine wpAny_bind (wpAny_of_eq (a := ()) (by first | rfl | kernel_rfl) ?_)
    try dsimp only
    refine wpAny_bind (wpAny_specialOf (typeIs_str s x t) F.lookup_str_reversed ?_)
    try dsimp only
    refine wpAny_bind ?_
    have hl := F.slot_str_getitem.lookup
    have hT := typeIs_str s x t
    have hD : isSubtype (.type "str") (.type "dict") = pure false := by rw [isSubtype_type]; kernel_rfl
    repeat (any_goals (first | assumption | refine PySem.P.len_str hx ?_ | wp_step))
    exact ⟨_, rfl, h _⟩

noncomputable def Heap.IsRvs (h : Heap) (a : Addr) (x : Str) (t : Tok) (i : Int) : Prop := ∃ o, h.get? a = some o ∧ o.cls = .type "reversed" ∧ o.data = .fields #[.str x t, rawInt i]
theorem Heap.IsRvs.typeIs {s : Shared} {a : Addr} {x : Str} {t : Tok} {i : Int} (y : s.heap.IsRvs a x t i) : s.TypeIs (.ref a) "reversed" := let ⟨o, ho, hc, _⟩ := y; ⟨o, ho, hc⟩
namespace F
theorem slot_rvs_next : Slot "reversed" "__next__" "reversed.__next__" :=
  .of (owner := "reversed") (n := "__next__") (by rw [typeLookup_type, builtinLookup_eq_fast]; kernel_rfl) (by decide +kernel) (by decide +kernel) (by decide +kernel)
    (by first | exact .inl (by decide +kernel) | exact .inr (by decide +kernel)) (by rw [isSubtype_type]; kernel_rfl)
theorem entry_rvs_next : entryFor table "reversed.__next__" = some Builtin.«reversed.__next__» := entryFor_of_tree (by kernel_rfl)
theorem args_rvs_next (a : Value) : argsOk "reversed.__next__" ⟨[a], []⟩ := by unfold argsOk; kernel_rfl
theorem slot_rvs_iter : Slot "reversed" "__iter__" "reversed.__iter__" :=
  .of (owner := "reversed") (n := "__iter__") (by rw [typeLookup_type, builtinLookup_eq_fast]; kernel_rfl) (by decide +kernel) (by decide +kernel) (by decide +kernel)
    (by first | exact .inl (by decide +kernel) | exact .inr (by decide +kernel)) (by rw [isSubtype_type]; kernel_rfl)
theorem args_rvs_iter (a : Value) : argsOk "reversed.__iter__" ⟨[a], []⟩ := by unfold argsOk; kernel_rfl
theorem entry_rvs_iter : entryFor table "reversed.__iter__" = some Builtin.«dict_keyiterator.__iter__» :=
  entryFor_alias (id' := "dict_keyiterator.__iter__") (by kernel_rfl) rfl (by decide +kernel) (by kernel_rfl)
end F
section
variable {prog : Program} {w : World} {A : Around} {E : Value → Shared → Prop} {s : Shared} {x : Str} {t : Tok}
theorem call_rvs_str {Q : Value → Shared → Prop} (hx : ¬ (x.length : Int) ≥ 2 ^ 63)
    (h : ∀ tk, Q (.ref s.heap.objs.size) { s with heap := s.heap.push { cls := .type "reversed", data := .fields #[.str x t, rawInt ((x.length : Int) - 1)] }, toks := tk }) : wpAny (model prog w) A (call (.type "reversed") [.str x t]) Q E s :=
  callType_new F.called_rvs (by decide) (F.typeCall_reversed_1 _) (F.newCall_reversed_1 _) (fun obj => F.args_object_init_2 obj _) F.entry_reversed_new (meets_rvs x t) ⟨hx, fun tk => ⟨⟨_, Heap.get?_push_size _ rfl, rfl⟩, h tk⟩⟩
theorem iter_rvs {it : Addr} {i : Int} {Q : Value → Shared → Prop} (hit : s.heap.IsRvs it x t i) (h : Q (.ref it) s) : wpAny (model prog w) A (pyIter (.ref it)) Q E s := by
  refine wpAny_pyIter_slot hit.typeIs F.slot_rvs_iter (wpAny_call_entry F.slot_rvs_iter hit.typeIs F.entry_rvs_iter ?_ (F.args_rvs_iter _))
  show wpAny _ _ (ret (.ref it)) _ _ s
  exact wpAny_pure ⟨_, rfl, "reversed", _, hit.typeIs, F.slot_rvs_next.lookup, h⟩
theorem next_rvs_item {it : Addr} {i : Nat} {c : Nat} {Q : Option Value → Shared → Prop} (hit : s.heap.IsRvs it x t (i : Int)) (hx : x.cps[i]? = some c) (h63 : (i : Int) < 2 ^ 63)
    (hQ : ∀ h' tk u, h'.IsRvs it x t ((i : Int) - 1) → Heap.SameBut it s.heap h' → Q (some (.str ⟨#[c]⟩ u)) { s with heap := h', toks := tk }) : wpAny (model prog w) A (pyNext (.ref it)) Q E s := by
  obtain ⟨o, ho, hc, hd⟩ := id hit
  unfold pyNext
  refine wpAny_bind (wpAny_attempt (wpAny_callSpecial?_slot (name := Str.ofString "__next__") hit.typeIs F.slot_rvs_next
    (wpAny_call_entry F.slot_rvs_next hit.typeIs F.entry_rvs_next ?_ (F.args_rvs_next _))))
  unfold Builtin.«reversed.__next__»
  refine wpAny_bind (wpAny_of_eq (a := (Value.ref it, [])) rfl ?_)
  try dsimp only
  refine wpAny_bind (wpAny_field ho hd (x := .str x t) rfl ?_)
  refine wpAny_bind (wpAny_field ho hd (x := rawInt (i : Int)) rfl ?_)
  show wpAny _ _ (if (i : Int) < 0 then _ else _) _ _ s
  rw [if_neg (by omega)]
  refine wpAny_bind (wpAny_specialOf (typeIs_str s x t) F.slot_str_getitem.lookup ?_)
  show wpAny _ _ (if (some (Value.builtin "str.__getitem__")).isNone = true then _ else _) _ _ s
  rw [if_neg (by decide)]
  refine wpAny_bind (wpAny_mkInt ?_)
  have hlt : i < x.length := by
    have := Array.getElem?_eq_some_iff.mp hx
    exact this.1
  refine wpAny_bind (wpAny_attempt (PySem.P.getItem_str (c := c) ?_ ?_ ?_))
  · have e1 : decide ((i : Int) < -(2 ^ 63 : Int)) = false := decide_eq_false (by omega)
    have e2 : decide ((i : Int) ≥ 2 ^ 63) = false := decide_eq_false (by omega)
    rw [e1, e2, Bool.or_false]
  · rw [PySem.StrLaws.seqIndex_nonneg (by omega) (by omega)]
    simpa using hx
  try dsimp only
  refine wpAny_bind (wpAny_field ho hd (x := rawInt (i : Int)) rfl ?_)
  show wpAny _ _ (setField (.ref it) 1 (rawInt ((i : Int) - 1)) >>= _) _ _ _
  refine wpAny_bind (wpAny_setField ho hd (by simp) ?_)
  refine wpAny_pure ⟨_, rfl, wpAny_pure (hQ _ _ _ ?_ (Heap.SameBut.update ..))⟩
  exact ⟨_, Heap.get?_update_self _ ho (Obj.isFreed_of_fields (Obj.data_mapFields hd _)), (Obj.cls_mapFields ..).trans hc, by
    rw [Obj.data_mapFields hd]; simp⟩
theorem next_rvs_end {it : Addr} {Q : Option Value → Shared → Prop} (hh : A.handled = none) (hit : s.heap.IsRvs it x t (-1))
    (hQ : ∀ h', (∀ b o, b ≠ it → s.heap.get? b = some o → h'.get? b = some o) → Q none { s with heap := h' }) : wpAny (model prog w) A (pyNext (.ref it)) Q E s := by
  obtain ⟨o, ho, hc, hd⟩ := id hit
  unfold pyNext
  refine wpAny_bind (wpAny_attempt (wpAny_callSpecial?_slot (name := Str.ofString "__next__") hit.typeIs F.slot_rvs_next
    (wpAny_call_entry F.slot_rvs_next hit.typeIs F.entry_rvs_next ?_ (F.args_rvs_next _))))
  unfold Builtin.«reversed.__next__»
  refine wpAny_bind (wpAny_of_eq (a := (Value.ref it, [])) rfl ?_)
  try dsimp only
  refine wpAny_bind (wpAny_field ho hd (x := .str x t) rfl ?_)
  refine wpAny_bind (wpAny_field ho hd (x := rawInt (-1)) rfl ?_)
  show wpAny _ _ (if (-1 : Int) < 0 then _ else _) _ _ s
  rw [if_pos (by decide)]
  refine wpAny_bind (wpAny_rule ?_)
  refine wpAny_bind ?_
  show wpAny _ _ (setField (.ref it) 1 (rawInt (-1)) >>= fun _ => setField (.ref it) 0 .none) _ _ s
  refine wpAny_bind (wpAny_setField ho hd (by simp) ?_)
  have ho2 := Heap.get?_update_self (Obj.mapFields fun a => a.setIfInBounds 1 (rawInt (-1))) ho (Obj.isFreed_of_fields (Obj.data_mapFields hd _))
  have hd2 := Obj.data_mapFields hd fun a => a.setIfInBounds 1 (rawInt (-1))
  refine wpAny_setField ho2 hd2 (by simp) ?_
  generalize hh2 : (s.heap.update it _).update it _ = h2
  have kk : ∀ b o, b ≠ it → s.heap.get? b = some o → h2.get? b = some o := fun b o hb e => by
    rw [← hh2]
    exact (Heap.get?_update_other _ _ (Ne.symm hb)).trans ((Heap.get?_update_other _ _ (Ne.symm hb)).trans e)
  have hz : A.in1.handled = none := hh
  have sub := isSubtype_stop
  repeat (any_goals (first | assumption | wp_step))
  unfold raiseNew
  refine wpAny_bind (wpAny_handled ?_)
  rw [hz]
  refine wpAny_bind (wpAny_pure (wpAny_throw ?_))
  refine wpAny_bind (wpAny_isInstance (T := "StopIteration") (b := true) ?_ sub (wpAny_pure (hQ _ fun b o hb e => ?_)))
  · exact ⟨_, Heap.get?_push_size _ rfl, rfl⟩
  exact Heap.get?_push_of_some _ (Heap.get?_push_of_some _ (kk b o hb e))
theorem walks_rvs (hh : A.handled = none) (it : Addr) (x : Str) (t : Tok) (h63 : (x.cps.size : Int) < 2 ^ 63) :
    Walks prog w A it [it] [it] x.cps.size (fun i v => ∃ c u, x.cps[x.cps.size - 1 - i]? = some c ∧ v = .str ⟨#[c]⟩ u) (fun i h => i ≤ x.cps.size ∧ h.IsRvs it x t ((x.cps.size : Int) - 1 - (i : Int))) where
  sub := fun _ hb => hb
  frame := fun _ _ _ st hk => let ⟨l, o, ho, r⟩ := st; ⟨l, o, hk it (by simp) o ho, r⟩
  item := fun i s Q E hi y hQ => by
    have e : (x.cps.size : Int) - 1 - (i : Int) = ((x.cps.size - 1 - i : Nat) : Int) := by omega
    have hit := y.2
    rw [e] at hit
    have hx : x.cps[x.cps.size - 1 - i]? = some (x.cps[x.cps.size - 1 - i]'(by omega)) := Array.getElem?_eq_getElem (by omega)
    refine next_rvs_item hit hx (by omega) fun h' tk u hit' hs' => ?_
    have e2 : ((x.cps.size - 1 - i : Nat) : Int) - 1 = (x.cps.size : Int) - 1 - ((i + 1 : Nat) : Int) := by omega
    rw [e2] at hit'
    exact hQ _ h' tk ⟨_, u, hx, rfl⟩ ⟨hi, hit'⟩ fun b o hb eo => hs'.extBut b o (fun h => hb (by simp [h])) eo
  done := fun s Q E y hQ => by
    have e : (x.cps.size : Int) - 1 - (x.cps.size : Int) = -1 := by omega
    have hit := y.2
    rw [e] at hit
    exact next_rvs_end hh hit fun h' he' => hQ h' s.toks fun b o hb eo => he' b o (fun h => hb (by simp [h])) eo
  self := fun _ _ _ _ y hQ => iter_rvs y.2 hQ
end
end PySem

namespace L2
open PySem PySem.Spec PyProof.Rows
noncomputable def Itsr (z : Str) : It := ⟨fun i _ => i < z.cps.size, fun i H x H' => H' = H ∧ ∃ c, z.cps[z.cps.size - 1 - i]? = some c ∧ x = .str ⟨#[c]⟩, fun i _ => i = z.cps.size⟩
section
variable {X : Cx} {tg : Expr}
noncomputable def iStrR (ta : TA) : TI := fun σ H R => ta σ H fun vs H1 => ∃ z, vs = [.str z] ∧ z.length ≤ sizeLine ∧ R (Itsr z) H1
theorem pi_strR {a : Expr} {ta : TA} {p pos : Pos} (hg : Gl X "reversed") (hm : X.mg "reversed" = none) (hb : bootBuiltins "reversed" = some (.type "reversed")) (ha : PA X [a] ta) (hs : starEach [a] X.env = [(false, eval a X.env)] := by rfl) :
    PI X tg (.Call (.Name "reversed" p) [a] [] pos) (iStrR ta) := by
  intro pins s σ H R I h
  refine Call_ (ld_blt I hg hm hb (PyProof.Rows.callWith_type1 (thn (ha pos pins s σ H _ I h) fun us s1 zq1 => ?_) hs rfl))
  obtain ⟨vs, H1, I1, r1, q1⟩ := zq1
  obtain ⟨z, rfl, hz, q⟩ := q1
  obtain ⟨u, rfl, t, rfl⟩ := vals1 r1
  have hn := line63
  have hsz : z.cps.size = z.length := rfl
  refine call_rvs_str (by omega) fun tk => ?_
  have hit : Heap.IsRvs (s1.heap.push { cls := .type "reversed", data := .fields #[.str z t, rawInt ((z.length : Int) - 1)] }) s1.heap.objs.size z t ((z.length : Int) - 1) := ⟨_, Heap.get?_push_size _ rfl, rfl, rfl⟩
  refine iter_rvs (s := { s1 with heap := s1.heap.push { cls := .type "reversed", data := .fields #[.str z t, rawInt ((z.length : Int) - 1)] }, toks := tk }) hit ?_
  refine ⟨s1.heap.objs.size, [s1.heap.objs.size], _, Itsr z, H1, rfl, I1.kept (t' := tk) fun b o e => Heap.get?_push_of_some _ e,
    turn_of_walks (T := "reversed") (fl := fun i => #[.str z t, rawInt ((z.cps.size : Int) - 1 - (i : Int))]) (fun A hh => walks_rvs hh _ z t (by omega)) (fun i h st => st.2) (by decide) (fun i H g => g) (fun i H g => g)
      (fun i H u _ ⟨c, t', e, eu⟩ => ⟨.str ⟨#[c]⟩, ⟨t', eu⟩, rfl, c, e, rfl⟩) (fun A i s Q E st h => iter_rvs st.2 h), ⟨Nat.zero_le _, by simpa [hsz] using hit⟩, fun b hb => ?_, q⟩
  have e : b = s1.heap.objs.size := by simpa using hb
  subst e
  exact I1.fpOk (Nat.le_refl _) (I1.hok.fresh (Nat.le_refl _))

structure DTx (K : PySem.W.Frag) (w : World) (a : Addr) : Prop where
  ob : ∃ (es : Array DictEntry) (n : Nat), K.lookup a = some ⟨.type "dict", none, .dict es n, #[]⟩ ∧ PySem.W.KeysLit w.params es.toList
theorem ix_kdict {a : Addr} (D : DTx X.K X.w a) : IxR X (fun x y H Q => ∃ z z' t, x = .ref a ∧ y = .str z ∧ PySem.W.nsIn X.K a z = some (some (.str z' t)) ∧ Q (.str z') H) := by
  intro value slice pins s σ H x y v u Q I rx ry h hs
  obtain ⟨z, z', t', rfl, rfl, e, q⟩ := h
  cases rx
  obtain ⟨t, rfl⟩ := ry
  obtain ⟨es, n, hl, hk⟩ := D.ob
  obtain ⟨m, F⟩ := I.fr
  exact PySem.W.topItem_K F I.ok.mod.kin hl hk e ⟨.str z', H, I.tok _, ⟨_, rfl⟩, q⟩ hs
noncomputable def tKGet_k1 (K : PySem.W.Frag) (a : Addr) (Q : VK) : V → Hp → Prop := fun y H1 => ∃ z z' t, y = .str z ∧ PySem.W.nsIn K a z = some (some (.str z' t)) ∧ Q (.str z') H1
noncomputable def tKGet (K : PySem.W.Frag) (a : Addr) (ti : TE) : TE := fun σ H Q => ti σ H (tKGet_k1 K a Q)
theorem pe_kget {K : PySem.W.Frag} {w : World} {a : Addr} {x : Str} {i : Expr} {ti : TE} {p pos : Pos} (D : DTx K w a) (hK : X.K = K) (hw : X.w = w) (hg : Gl X x) (hm : X.mg x = some (.ref a)) (hi : PE X i ti) (hs : PlainIx i)
    (hd : (x == ("__debug__" : Str)) = false := by decide) : PE X (.Subscript (.Name x p) i pos) (tKGet K a ti) := by
  subst hK hw
  intro pins s σ H Q I h
  refine Subscript_ (ld_glob I hg hm (thn (hi pins s σ H _ I h) fun u s2 zq2 => ?_) hd)
  obtain ⟨y, H2, I2, ry, z, z', t', e1, e2, q⟩ := zq2
  exact ix_kdict D _ _ pins s2 σ H2 (.ref a) y (.ref a) u Q I2 rfl ry ⟨z, z', t', rfl, e1, e2, q⟩ (hs _ _)
end
end L2
set_option linter.all false
namespace Wd
noncomputable abbrev L := Fin 12
noncomputable def inv (x : L) : L := if h : x.val < 6 then ⟨x.val + 6, by omega⟩ else ⟨x.val - 6, by omega⟩
theorem inv_inv : ∀ x : L, inv (inv x) = x := by decide
theorem inv_ne : ∀ x : L, inv x ≠ x := by decide
noncomputable def bk (w : List L) : List L := (w.map inv).reverse
theorem bk_nil : bk [] = [] := rfl
theorem bk_append (u v : List L) : bk (u ++ v) = bk v ++ bk u := by simp [bk]
theorem bk_bk (w : List L) : bk (bk w) = w := by
  unfold bk
  rw [List.map_reverse, List.reverse_reverse, List.map_map]
  have : (inv ∘ inv) = id := funext fun x => inv_inv x
  rw [this, List.map_id]
theorem bk_length (w : List L) : (bk w).length = w.length := by simp [bk]
theorem bk_cons (x : L) (w : List L) : bk (x :: w) = bk w ++ [inv x] := by simp [bk]
theorem bk_one (x : L) : bk [x] = [inv x] := rfl

noncomputable def push (st : List L) (x : L) : List L := match st with
  | [] => [x]
  | y :: r => if y = inv x then r else x :: y :: r
noncomputable def act (w : List L) (st : List L) : List L := w.foldl push st
theorem act_nil (st : List L) : act [] st = st := rfl
theorem act_cons (x : L) (w st : List L) : act (x :: w) st = act w (push st x) := rfl
theorem act_append (u v st : List L) : act (u ++ v) st = act v (act u st) := by simp [act, List.foldl_append]
theorem act_snoc (u : List L) (x : L) (st : List L) : act (u ++ [x]) st = push (act u st) x := by rw [act_append]; rfl
noncomputable def Rd : List L → Prop
  | [] => True
  | [_] => True
  | x :: y :: r => y ≠ inv x ∧ Rd (y :: r)
theorem Rd.tail : ∀ {x : L} {r : List L}, Rd (x :: r) → Rd r
  | _, [], _ => trivial
  | _, _ :: _, h => h.2
theorem push_rd {st : List L} (x : L) (h : Rd st) : Rd (push st x) := by
  cases st with
  | nil => trivial
  | cons y r =>
    show Rd (if y = inv x then r else x :: y :: r)
    split
    · exact h.tail
    · rename_i hn
      exact ⟨hn, h⟩
theorem act_rd : ∀ (w : List L) {st : List L}, Rd st → Rd (act w st)
  | [], _, h => h
  | x :: w, st, h => act_rd w (push_rd x h)
theorem push_push {st : List L} (x : L) (h : Rd st) : push (push st x) (inv x) = st := by
  cases st with
  | nil =>
    show (if x = inv (inv x) then [] else _) = _
    rw [if_pos (inv_inv x).symm]
  | cons y r =>
    show push (if y = inv x then r else x :: y :: r) (inv x) = y :: r
    by_cases e : y = inv x
    · rw [if_pos e]
      subst e
      cases r with
      | nil => rfl
      | cons z r =>
        show (if z = inv (inv x) then r else inv x :: z :: r) = _
        rw [if_neg h.1]
    · rw [if_neg e]
      show (if x = inv (inv x) then y :: r else _) = _
      rw [if_pos (inv_inv x).symm]
theorem push_push' {st : List L} (x : L) (h : Rd st) : push (push st (inv x)) x = st := by
  have := push_push (inv x) h
  rwa [inv_inv] at this
theorem act_bk : ∀ (w : List L) {st : List L}, Rd st → act (bk w) (act w st) = st
  | [], _, _ => rfl
  | x :: w, st, h => by
    rw [act_cons, bk_cons, act_append, act_bk w (push_rd x h), act_cons, act_nil, push_push x h]
noncomputable def red (w : List L) : List L := (act w []).reverse
theorem act_rev : ∀ {st : List L}, Rd st → act st.reverse [] = st
  | [], _ => rfl
  | x :: r, h => by
    rw [List.reverse_cons, act_snoc, act_rev h.tail]
    cases r with
    | nil => rfl
    | cons y r =>
      show (if y = inv x then r else _) = _
      rw [if_neg h.1]
theorem nil_rd : Rd [] := trivial
theorem act_red (v : List L) : ∀ (st : List L), Rd st → act (red v) st = act v st := by
  have all : ∀ (u v : List L) (st : List L), v = u.reverse → Rd st → act (red v) st = act v st := by
    intro u
    induction u with
    | nil => intro v st e _; subst e; rfl
    | cons x u ih =>
      intro v st e h
      subst e
      rw [List.reverse_cons, act_snoc, ← ih _ st rfl h]
      unfold red
      rw [act_snoc]
      cases hq : act u.reverse [] with
      | nil => rfl
      | cons y r =>
        show act (if y = inv x then r else x :: y :: r).reverse st = push (act (y :: r).reverse st) x
        by_cases e : y = inv x
        · rw [if_pos e, List.reverse_cons, act_snoc, e, push_push' x (act_rd _ h)]
        · rw [if_neg e, List.reverse_cons, act_snoc]
  exact fun st h => all v.reverse v st (by simp) h
theorem red_left (u v : List L) : red (red u ++ v) = red (u ++ v) := by
  unfold red
  rw [act_append, act_append, act_rev (act_rd u nil_rd)]
theorem red_right (u v : List L) : red (u ++ red v) = red (u ++ v) := by
  show (act (u ++ red v) []).reverse = (act (u ++ v) []).reverse
  rw [act_append, act_append, act_red v _ (act_rd u nil_rd)]
theorem red_bk (a : List L) : red (a ++ bk a) = [] := by
  unfold red
  rw [act_append, act_bk a nil_rd]
  rfl
theorem push_length (st : List L) (x : L) : (push st x).length ≤ st.length + 1 := by
  cases st with
  | nil => simp [push]
  | cons y r =>
    show (if y = inv x then r else x :: y :: r).length ≤ _
    split
    · simp only [List.length_cons]; omega
    · simp
theorem act_length : ∀ (w st : List L), (act w st).length ≤ st.length + w.length
  | [], _ => by simp [act]
  | x :: w, st => by
    have := act_length w (push st x)
    have := push_length st x
    rw [act_cons, List.length_cons]
    omega
theorem red_length (w : List L) : (red w).length ≤ w.length := by
  have := act_length w []
  simpa [red] using this
noncomputable def rep : Nat → List L → List L
  | 0, _ => []
  | n + 1, w => rep n w ++ w
theorem rep_comm (w : List L) : ∀ n, rep n w ++ w = w ++ rep n w
  | 0 => by simp [rep]
  | n + 1 => by
    show (rep n w ++ w) ++ w = w ++ (rep n w ++ w)
    rw [← List.append_assoc, ← rep_comm w n]
theorem rep_length (w : List L) : ∀ n, (rep n w).length = n * w.length
  | 0 => by simp [rep]
  | n + 1 => by
    show (rep n w ++ w).length = _
    rw [List.length_append, rep_length w n, Nat.succ_mul]

noncomputable def RdTo (k : Nat) (w : List L) : Prop := ∀ i x y, i + 1 < k → w[i]? = some x → w[i + 1]? = some y → y ≠ inv x
theorem rdTo_rd : ∀ {w : List L} {k : Nat}, w.length ≤ k → RdTo k w → act w [] = w.reverse := by
  have all : ∀ (u st : List L), Rd st → (∀ x y, st.head? = some x → u.head? = some y → y ≠ inv x) → RdTo u.length u → act u st = u.reverse ++ st := by
    intro u
    induction u with
    | nil => intro st _ _ _; rfl
    | cons x u ih =>
      intro st h hd hr
      have e : push st x = x :: st := by
        cases st with
        | nil => rfl
        | cons y r =>
          show (if y = inv x then r else _) = _
          rw [if_neg]
          intro e
          have := hd y x rfl rfl
          rw [e, inv_inv] at this
          exact this rfl
      rw [act_cons, e, ih (x :: st), List.reverse_cons, List.append_assoc]
      · rfl
      · rw [← e]; exact push_rd x h
      · intro a b ha hb
        have ea : a = x := (Option.some.inj ha).symm
        subst ea
        cases u with
        | nil => cases hb
        | cons c u =>
          have eb : b = c := (Option.some.inj hb).symm
          subst eb
          exact hr 0 a b (by simp) rfl rfl
      · intro i a b hi ha hb
        exact hr (i + 1) a b (by simp only [List.length_cons]; omega) ha hb
  intro w k hk h
  have := all w [] nil_rd (fun x y hx => by cases hx) (fun i x y hi => h i x y (by omega))
  simpa using this
theorem red_of_rdTo {w : List L} {k : Nat} (hk : w.length ≤ k) (h : RdTo k w) : red w = w := by
  unfold red
  rw [rdTo_rd hk h, List.reverse_reverse]
theorem rdTo_grow {w : List L} {k : Nat} (h : RdTo (k + 1) w) (hn : ∀ x y, w[k]? = some x → w[k + 1]? = some y → y ≠ inv x) : RdTo (k + 2) w := by
  intro i x y hi hx hy
  by_cases e : i = k
  · subst e; exact hn x y hx hy
  · exact h i x y (by omega) hx hy
theorem rdTo_cut {w : List L} {k : Nat} (h : RdTo (k + 1) w) : RdTo (k - 1 + 1) (w.take k ++ w.drop (k + 2)) := by
  intro i x y hi hx hy
  by_cases hk : k = 0
  · omega
  · have e1 : (w.take k ++ w.drop (k + 2))[i]? = w[i]? := by
      by_cases hl : i < (w.take k).length
      · rw [List.getElem?_append_left hl, List.getElem?_take_of_lt (by omega)]
      · rw [List.length_take] at hl
        rw [List.getElem?_eq_none (l := w) (by omega)]
        rw [List.getElem?_eq_none]
        rw [List.length_append, List.length_take, List.length_drop]
        omega
    have e2 : (w.take k ++ w.drop (k + 2))[i + 1]? = w[i + 1]? := by
      by_cases hl : i + 1 < (w.take k).length
      · rw [List.getElem?_append_left hl, List.getElem?_take_of_lt (by omega)]
      · rw [List.length_take] at hl
        rw [List.getElem?_eq_none (l := w) (by omega)]
        rw [List.getElem?_eq_none]
        rw [List.length_append, List.length_take, List.length_drop]
        omega
    rw [e1] at hx
    rw [e2] at hy
    exact h i x y (by omega) hx hy
theorem red_cut {w : List L} {k : Nat} {x : L} (hx : w[k]? = some x) (hy : w[k + 1]? = some (inv x)) : red (w.take k ++ w.drop (k + 2)) = red w := by
  obtain ⟨h1, e1⟩ := List.getElem?_eq_some_iff.mp hx
  obtain ⟨h2, e2⟩ := List.getElem?_eq_some_iff.mp hy
  have e : w = w.take k ++ ([x, inv x] ++ w.drop (k + 2)) := by
    have a := (List.take_append_drop k w).symm
    have b : w.drop k = x :: inv x :: w.drop (k + 2) := by
      rw [List.drop_eq_getElem_cons h1, List.drop_eq_getElem_cons h2, e1, e2]
    rw [b] at a
    exact a
  have q : red (w.take k ++ ([x, inv x] ++ w.drop (k + 2))) = red (w.take k ++ w.drop (k + 2)) := by
    unfold red
    rw [act_append, act_append, act_append]
    show (act (w.drop (k + 2)) (push (push (act (w.take k) []) x) (inv x))).reverse = _
    rw [push_push x (act_rd _ nil_rd)]
  rw [← q, ← e]
end Wd
set_option Elab.async false
set_option linter.all false
set_option maxRecDepth 100000
namespace L2
open PySem PySem.Spec PyProof.Rows Wd

noncomputable def cp (x : L) : Nat := if x.val < 6 then 97 + x.val else 59 + x.val
theorem cp_lt : ∀ x : L, cp x < 128 := by decide
theorem cp_inj : ∀ x y : L, cp x = cp y → x = y := by decide
noncomputable def toS (w : List L) : Str := ⟨(w.map cp).toArray⟩
noncomputable def tx (w : List L) : V := .str (toS w)
theorem toS_cps (w : List L) : (toS w).cps.toList = w.map cp := by simp [toS]
theorem toS_length (w : List L) : (toS w).length = w.length := by simp [toS, Str.length]
theorem toS_size (w : List L) : (toS w).cps.size = w.length := by simp [toS]
theorem toS_append (u v : List L) : toS u ++ toS v = toS (u ++ v) := by
  apply Str.ext'
  rw [Str.cps_append]
  simp [toS]
theorem map_cp_inj : ∀ {u v : List L}, u.map cp = v.map cp → u = v
  | [], [], _ => rfl
  | [], _ :: _, h => by simp at h
  | _ :: _, [], h => by simp at h
  | x :: u, y :: v, h => by
    simp only [List.map_cons, List.cons.injEq] at h
    rw [cp_inj x y h.1, map_cp_inj h.2]
theorem toS_inj {u v : List L} (h : toS u = toS v) : u = v := by
  have : (toS u).cps.toList = (toS v).cps.toList := by rw [h]
  rw [toS_cps, toS_cps] at this
  exact map_cp_inj this
theorem tx_inj {u v : List L} (h : tx u = tx v) : u = v := toS_inj (V.str.inj h)
theorem toS_nil : toS [] = ("" : Str) := by decide +kernel
theorem tx_nil : tx [] = V.str ("" : Str) := congrArg V.str toS_nil
theorem dec_tx (u v : List L) : decide (tx u = tx v) = decide (u = v) := by
  by_cases h : u = v
  · subst h; simp
  · rw [decide_eq_false h, decide_eq_false fun e => h (tx_inj e)]
theorem small : toS [0, 1, 2, 3, 4, 5] = ("abcdef" : Str) := by decide +kernel
theorem big : toS [6, 7, 8, 9, 10, 11] = ("ABCDEF" : Str) := by decide +kernel

theorem sign_at {w : List L} {i c : Nat} (h : (toS w).cps[i]? = some c) : ∃ x, w[i]? = some x ∧ (⟨#[c]⟩ : Str) = toS [x] := by
  have h : ((w.map cp).toArray)[i]? = some c := h
  rw [List.getElem?_toArray, List.getElem?_map] at h
  cases e : w[i]? with
  | none => rw [e] at h; cases h
  | some x =>
    rw [e] at h
    have : cp x = c := Option.some.inj h
    exact ⟨x, rfl, by rw [← this]; rfl⟩
theorem atI_toS {w : List L} {k : Nat} {x : L} {i : Int} (hk : i = (k : Int)) (h : w[k]? = some x) : atI (toS w).cps.toList i = some (cp x) := by
  subst hk
  rw [toS_cps]
  obtain ⟨hl, e⟩ := List.getElem?_eq_some_iff.mp h
  unfold atI ixN
  rw [if_pos (by omega), if_pos (by rw [List.length_map]; omega)]
  show (w.map cp)[((k : Nat) : Int).toNat]? = _
  rw [Int.toNat_natCast, List.getElem?_map, h]
  rfl

noncomputable def cutL (w : List L) (lo hi : Option Int) : List L := (w.drop (HT.sIx w.length 0 lo)).take (HT.sIx w.length w.length hi - HT.sIx w.length 0 lo)
theorem idx_gen (lo hi : Option Int) (n : Nat) : Builtin.Str.strSliceIndices lo hi 1 n = (List.range (HT.sIx n n hi - HT.sIx n 0 lo)).map (fun k => HT.sIx n 0 lo + k) := by
  have cl : ∀ v : Int, max (0 : Int) (min (if v < 0 then v + (n : Int) else v) (n : Int)) = (((if v < 0 then (v + (n : Int)).toNat else min v.toNat n) : Nat) : Int) := fun v => by
    by_cases hv : v < 0
    · simp only [if_pos hv]; omega
    · simp only [if_neg hv]; omega
  have fin : ∀ a b : Nat, sliceRange (a : Int) (b : Int) 1 = (List.range (b - a)).map (fun k => a + k) := fun a b => by
    unfold sliceRange
    simp only [show ((1 : Int) > 0) = True from by simp, if_true]
    by_cases hlt : (a : Int) < b
    · have e3 : (((b : Int) - a + 1 - 1) / 1).toNat = b - a := by first | omega | (simp; done) | (simp; omega)
      simp only [hlt, if_true, e3]
      exact List.map_congr_left fun k _ => by omega
    · have : b - a = 0 := by omega
      simp [hlt, this]
  unfold Builtin.Str.strSliceIndices
  simp only [show ((1 : Int) > 0) = True from by simp, if_true]
  cases lo with
  | none =>
    cases hi with
    | none => exact fin 0 n
    | some j => simp only [cl]; exact fin 0 _
  | some i =>
    cases hi with
    | none => simp only [cl]; exact fin _ n
    | some j => simp only [cl]; exact fin _ _
theorem slice_toS (w : List L) (lo hi : Option Int) : Txt.slice (toS w) lo hi = toS (cutL w lo hi) := by
  have h1 := HT.sIx_le w.length 0 (Nat.zero_le _) lo
  have h2 := HT.sIx_le w.length w.length (Nat.le_refl _) hi
  unfold Txt.slice
  rw [idx_gen, toS_length]
  split
  · rename_i h
    have hl : HT.sIx w.length w.length hi - HT.sIx w.length 0 lo = w.length := by simpa using h
    have e : cutL w lo hi = w := by
      unfold cutL
      rw [hl]
      have ha : HT.sIx w.length 0 lo = 0 ∨ w.length = 0 := by omega
      rcases ha with ha | ha
      · rw [ha, List.drop_zero, List.take_length]
      · have : w = [] := List.eq_nil_of_length_eq_zero ha
        subst this
        simp
    rw [e]
  · apply Str.ext'
    show (List.filterMap _ _).toArray = _
    have e := StrLaws.picks (w.map cp) (HT.sIx w.length w.length hi - HT.sIx w.length 0 lo) (HT.sIx w.length 0 lo)
    by_cases hle : HT.sIx w.length 0 lo ≤ HT.sIx w.length w.length hi
    · have e := e (by rw [List.length_map]; omega)
      have e2 : (fun k : Nat => (toS w).cps[k]?) = fun k : Nat => (w.map cp)[k]? := funext fun k => by simp [toS]
      rw [e2, e]
      simp [toS, cutL, List.map_take, List.map_drop]
    · have z : HT.sIx w.length w.length hi - HT.sIx w.length 0 lo = 0 := by omega
      rw [z]
      simp [toS, cutL, z]
theorem cut_to (w : List L) {n : Int} (h : 0 ≤ n) : cutL w none (some n) = w.take n.toNat := by
  obtain ⟨k, rfl⟩ := Int.eq_ofNat_of_zero_le h
  unfold cutL
  rw [HT.sIx_none, HT.sIx_nat, List.drop_zero, Nat.sub_zero, Int.toNat_natCast]
  by_cases hk : k ≤ w.length
  · rw [Nat.min_eq_left hk]
  · rw [Nat.min_eq_right (by omega), List.take_length, List.take_of_length_le (by omega)]
theorem cut_from (w : List L) {n : Int} (h : 0 ≤ n) : cutL w (some n) none = w.drop n.toNat := by
  obtain ⟨k, rfl⟩ := Int.eq_ofNat_of_zero_le h
  unfold cutL
  rw [HT.sIx_none, HT.sIx_nat, Int.toNat_natCast]
  by_cases hk : k ≤ w.length
  · rw [Nat.min_eq_left hk, List.take_of_length_le (by rw [List.length_drop]; omega)]
  · rw [Nat.min_eq_right (by omega), List.drop_length, List.drop_eq_nil_of_le (by omega)]
    simp
theorem cut_length (w : List L) (lo hi : Option Int) : (cutL w lo hi).length ≤ w.length := by
  unfold cutL
  rw [List.length_take, List.length_drop]
  omega

theorem upper_toS (w : List L) : Txt.upper (toS w) = ⟨((w.map cp).map up1).toArray⟩ := by
  rw [upper_ascii fun c hc => by rw [toS_cps] at hc; obtain ⟨x, _, rfl⟩ := List.mem_map.mp hc; exact cp_lt x]
  simp [toS]
theorem lower_toS (w : List L) : Txt.lower (toS w) = ⟨((w.map cp).map lo1).toArray⟩ := by
  rw [lower_ascii fun c hc => by rw [toS_cps] at hc; obtain ⟨x, _, rfl⟩ := List.mem_map.mp hc; exact cp_lt x]
  simp [toS]
theorem up_cp : ∀ x : L, x.val < 6 → up1 (cp x) = cp (inv x) := by decide
theorem lo_cp : ∀ x : L, ¬ x.val < 6 → lo1 (cp x) = cp (inv x) := by decide
theorem upper_one {x : L} (h : x.val < 6) : Txt.upper (toS [x]) = toS [inv x] := by
  rw [upper_toS]
  show (⟨#[up1 (cp x)]⟩ : Str) = ⟨#[cp (inv x)]⟩
  rw [up_cp x h]
theorem lower_one {x : L} (h : ¬ x.val < 6) : Txt.lower (toS [x]) = toS [inv x] := by
  rw [lower_toS]
  show (⟨#[lo1 (cp x)]⟩ : Str) = ⟨#[cp (inv x)]⟩
  rw [lo_cp x h]
theorem ex1 : ∀ x : L, cp x ∈ List.map cp [0, 1, 2, 3, 4, 5] → x.val < 6 := by decide
theorem ex2 : ∀ x : L, x.val < 6 → (List.map cp [0, 1, 2, 3, 4, 5])[x.val]? = some (cp x) := by decide
theorem in_small (x : L) : (!(Builtin.Str.occurrences ("abcdef" : Str) (toS [x]) 0 ("abcdef" : Str).length 1).isEmpty) = decide (x.val < 6) := by
  have h := StrLaws.found_iff ("abcdef" : Str) (toS [x])
  have e : (∃ i, i + (toS [x]).length ≤ ("abcdef" : Str).length ∧ Builtin.Str.subAt ("abcdef" : Str) (toS [x]) i = true) ↔ x.val < 6 := by
    have e2 : ∀ i, (i + (toS [x]).length ≤ ("abcdef" : Str).length ∧ Builtin.Str.subAt ("abcdef" : Str) (toS [x]) i = true) ↔ ("abcdef" : Str).cps.toList[i]? = some (cp x) := fun i => StrLaws.subAt_one _ _ _
    rw [show (("abcdef" : Str)) = toS [0, 1, 2, 3, 4, 5] from small.symm] at e2 ⊢
    constructor
    · rintro ⟨i, hi⟩
      have hi := (e2 i).mp hi
      rw [toS_cps] at hi
      exact ex1 x (List.mem_of_getElem? hi)
    · intro hx
      refine ⟨x.val, (e2 x.val).mpr ?_⟩
      rw [toS_cps]
      exact ex2 x hx
  rw [Bool.eq_iff_iff, h, e, decide_eq_true_iff]
theorem join_one : ∀ w : List L, Txt.join ("" : Str) (w.map fun x => toS [x]) = toS w := by
  intro w
  have e0 : ("" : Str) = Str.empty := by decide +kernel
  unfold Txt.join
  rw [StrLaws.glued_eq_join, e0]
  induction w with
  | nil => rfl
  | cons x r ih =>
    cases r with
    | nil => rfl
    | cons y r =>
      show toS [x] ++ Str.empty ++ Str.join Str.empty ((y :: r).map fun x => toS [x]) = _
      rw [ih, Str.append_empty, toS_append]
      rfl
theorem sum_one (w : List L) : ((w.map fun x => toS [x]).map (·.length)).sum = w.length := by
  induction w with
  | nil => rfl
  | cons x r ih =>
    simp only [List.map_cons, List.sum_cons, List.length_cons]
    rw [ih, toS_length]
    simp only [List.length_singleton]
    omega
theorem foldl_rep_cp (w : List L) : ∀ (n : Nat) (acc : Array Nat), (List.replicate n (toS w).cps).foldl (· ++ ·) acc = acc ++ ((rep n w).map cp).toArray
  | 0, acc => by simp [rep]
  | n + 1, acc => by
    rw [List.replicate_succ, List.foldl_cons, foldl_rep_cp w n]
    show _ = acc ++ ((rep n w ++ w).map cp).toArray
    rw [rep_comm]
    simp [toS]
theorem rep_nil : ∀ n, rep n ([] : List L) = []
  | 0 => rfl
  | n + 1 => by show rep n [] ++ [] = []; rw [rep_nil n]; rfl
theorem rep_toS (w : List L) (n : Int) : Txt.mul (toS w) n = toS (rep n.toNat w) := by
  unfold Txt.mul
  by_cases h1 : n < 1
  · rw [if_pos h1]
    have : n.toNat = 0 := by omega
    rw [this]
    rfl
  · rw [if_neg h1]
    split
    · rename_i h
      rw [toS_length] at h
      simp only [Bool.or_eq_true, beq_iff_eq] at h
      rcases h with h | h
      · subst h
        show toS w = toS (rep 1 w)
        show toS w = toS ([] ++ w)
        rfl
      · have : w = [] := List.eq_nil_of_length_eq_zero h
        subst this
        rw [rep_nil]
    · apply Str.ext'
      show (List.replicate n.toNat (toS w).cps).foldl (· ++ ·) #[] = _
      rw [foldl_rep_cp]
      simp [toS]
theorem mulOk_toS (w : List L) {n : Int} (h1 : -1000000 ≤ n) (h2 : n ≤ 1000) (hw : w.length ≤ 10000) : MulOk (toS w) n := by
  refine ⟨?_, fun hn _ => ?_, fun hn _ => ?_⟩
  · have e1 : decide (n < -(2 ^ 63 : Int)) = false := decide_eq_false (by omega)
    have e2 : decide (n ≥ 2 ^ 63) = false := decide_eq_false (by omega)
    rw [e1, e2, Bool.or_false]
  · rw [toS_length]
    have hn1 : 1 ≤ n := by omega
    have q : (9223372036854775 : Int) ≤ (2 ^ 63 - 1) / n := by
      rw [Int.le_ediv_iff_mul_le (by omega)]
      omega
    omega
  · rw [toS_length]
    unfold Builtin.Str.tooLong
    have e : sizeLine = 16777216 := sizeLine_eq
    obtain ⟨k, rfl⟩ := Int.eq_ofNat_of_zero_le (show 0 ≤ n by omega)
    have hk : k ≤ 1000 := by omega
    rw [Int.toNat_natCast]
    have q : w.length * k ≤ 10000 * 1000 := Nat.mul_le_mul hw hk
    exact decide_eq_false (by omega)
end L2
set_option Elab.async false
set_option linter.all false
set_option maxRecDepth 100000
namespace L2
open PySem PySem.Spec PyProof.Rows Wd

structure Fnc (P : Program) (w : World) (K : PySem.W.Frag) (mg : Str → Option Value) (base : Heap) (x : Str) (ps : List Str) (k : Nat) (sp : Sp) : Prop where
  ex : ∃ (f : Addr) (fd : FuncData), mg x = some (.ref f) ∧ PySem.W.keepIn K (.ref f) = true ∧ Binds K fd ps [] ∧ FnOk P w K mg base CX0 k f fd ps sp
theorem pe_fn {X : Cx} {x : Str} {ps : List Str} {k j : Nat} {sp : Sp} {e : Expr} {es : List Expr} {t : TA} {p pos : Pos} (F : Fnc X.prog X.w X.K X.mg X.base x ps j sp) (hr : Room k X.A) (hj : j ≤ k) (hg : Gl X x) (ha : PA X (e :: es) t)
    (hdb : (x == ("__debug__" : Str)) = false := by decide) (he : starEach (e :: es) X.env = (false, eval e X.env) :: starEach es X.env := by rfl) (hpl : (backTo pos (starEach es X.env)).any (·.1) = false := by rfl) :
    PE X (.Call (.Name x p) (e :: es) [] pos) (tCall sp [] E0 t) := by
  obtain ⟨f, fd, hm, hk, hb, F⟩ := F.ex
  exact pe_call F (hr.mono hj) hg hm hk hb .nil pass0 ha hdb he hpl
structure Df (K : PySem.W.Frag) (mg : Str → Option Value) (x : Str) (st : Stmt) : Prop where
  ex : ∃ (f : Addr) (fd : FuncData), mg x = some (.ref f) ∧ Fun K x x st f fd
theorem Df.ok {P : Program} {w : World} {K : PySem.W.Frag} {mg : Str → Option Value} {base : Heap} {x : Str} {st : Stmt} {N ps : List Str} {k : Nat} {sp : Sp} (D : Df K mg x st) (S : FnScope N ps (defScope st))
    (hb : ∀ (kV doc pm : Value) (an : Option Addr) (cdv ct : Value) (us : List Value), us.length = ps.length → bindArgs (PySem.W.fnOf x x (defArgs st) (defBody st) (defScope st) .none kV doc pm an cdv ct) ⟨us, []⟩ = pure (ps.zip us))
    (len : ∀ vs H Q E, sp vs H Q E → vs.length = ps.length)
    (hbody : ∀ (f : Addr) (cdv : Value) (A : Around) (outer : List Env) (s : Shared) (H : Hp) (vs : List V) (Q : VK) (E : XK), Room k (A.deeper (envOfC x (defScope st) s.heap.objs.size f cdv)) → sp vs H Q E →
      ∃ t, PSs (cxOf CX0 P w K mg base N x (defScope st) f cdv A outer s H E).nox (defBody st) t ∧ t { nx := fun _ H' => Q .non H', rt := Q } (start N vs) H) : Fnc P w K mg base x ps (k + 1) sp := by
  obtain ⟨f, fd, hm, F⟩ := D.ex
  exact ⟨f, fd, hm, F.kp, F.binds hb, F.ok S len fun cdv A outer s H vs Q E hr h => hbody f cdv A outer s H vs Q E hr h⟩

noncomputable def SameB (d : Addr) (H H' : Hp) : Prop := ∀ b o, b ≠ d → H b = some o → H' b = some o
theorem SameB.refl (d : Addr) (H : Hp) : SameB d H H := fun _ _ _ h => h
theorem SameB.trans {d : Addr} {H H1 H2 : Hp} (a : SameB d H H1) (b : SameB d H1 H2) : SameB d H H2 := fun c o n h => b c o n (a c o n h)
theorem Same.b {d : Addr} {H H' : Hp} (a : Same H H') : SameB d H H' := fun b o _ h => a b o h
theorem Same.new {H : Hp} {a : Addr} {o : HO} (h : H a = none) : Same H (upd H a o) := fun b u e => by rw [upd_ne (ne_of_none e h)]; exact e
theorem SameB.upd {d : Addr} {H : Hp} {o : HO} : SameB d H (upd H d o) := fun b u n e => by rw [upd_ne n]; exact e
theorem Same.then {H H1 : Hp} {a : Addr} {o : HO} (s : Same H H1) (h : H1 a = none) : Same H (L2.upd H1 a o) := s.trans (Same.new h)

noncomputable def kS (x : Str) : Key := .inr x
noncomputable def fkv (c : Addr) (i l t : Int) : List (Key × V) := [(kS "cells", .ref c), (kS "at", .int i), (kS "left", .int l), (kS "turn", .int t)]
theorem n_ca : ¬ (kS "cells" = kS "at") := by decide +kernel
theorem n_cl : ¬ (kS "cells" = kS "left") := by decide +kernel
theorem n_ct : ¬ (kS "cells" = kS "turn") := by decide +kernel
theorem n_al : ¬ (kS "at" = kS "left") := by decide +kernel
theorem n_at : ¬ (kS "at" = kS "turn") := by decide +kernel
theorem n_lt : ¬ (kS "left" = kS "turn") := by decide +kernel
theorem valV_hit {κ : Type} [DecidableEq κ] {k : κ} {v : V} {r : List (κ × V)} : valV ((k, v) :: r) k = some v := by unfold valV; simp
theorem valV_skip {κ : Type} [DecidableEq κ] {k k' : κ} {v : V} {r : List (κ × V)} (h : ¬ k' = k) : valV ((k', v) :: r) k = valV r k := by unfold valV; simp [h]
theorem g_cells (c : Addr) (i l t : Int) : valV (fkv c i l t) (kS "cells") = some (.ref c) := valV_hit
theorem g_at (c : Addr) (i l t : Int) : valV (fkv c i l t) (kS "at") = some (.int i) := (valV_skip n_ca).trans valV_hit
theorem g_left (c : Addr) (i l t : Int) : valV (fkv c i l t) (kS "left") = some (.int l) := (valV_skip n_cl).trans ((valV_skip n_al).trans valV_hit)
theorem g_turn (c : Addr) (i l t : Int) : valV (fkv c i l t) (kS "turn") = some (.int t) := (valV_skip n_ct).trans ((valV_skip n_at).trans ((valV_skip n_lt).trans valV_hit))
theorem n_ta : ¬ (kS "turn" = kS "at") := fun e => n_at e.symm
theorem n_la : ¬ (kS "left" = kS "at") := fun e => n_al e.symm
theorem n_tl : ¬ (kS "turn" = kS "left") := fun e => n_lt e.symm
theorem p_at (c : Addr) (i l t z : Int) : putK (fkv c i l t) (kS "at") (.int z) = fkv c z l t := by simp [putK, fkv, n_ca, n_la, n_ta]
theorem p_left (c : Addr) (i l t z : Int) : putK (fkv c i l t) (kS "left") (.int z) = fkv c i z t := by simp [putK, fkv, n_cl, n_al, n_tl]
theorem p_turn (c : Addr) (i l t z : Int) : putK (fkv c i l t) (kS "turn") (.int z) = fkv c i l z := by simp [putK, fkv, n_ct, n_at, n_lt]
theorem fkv_len (c : Addr) (i l t : Int) : (fkv c i l t).length < sizeLine := by show 4 < sizeLine; decide
theorem m_fkv (c : Addr) (i l t : Int) : mergeK [] (fkv c i l t) = fkv c i l t := by simp [mergeK, putK, fkv, n_ca, n_cl, n_ct, n_al, n_at, n_lt]

structure Fd (H : Hp) (d : Addr) : Prop where
  ex : ∃ (c : Addr) (i l t : Int) (ns : List Int), H d = some (.dK (fkv c i l t)) ∧ H c = some (.lst (ns.map V.int)) ∧ ns ≠ [] ∧ ns.length ≤ 64
theorem Fd.same {H H' : Hp} {d : Addr} (F : Fd H d) (s : Same H H') : Fd H' d := by
  obtain ⟨c, i, l, t, ns, h1, h2, h3, h4⟩ := F.ex
  exact ⟨c, i, l, t, ns, s _ _ h1, s _ _ h2, h3, h4⟩
theorem Fd.new {H : Hp} {d a : Addr} {o : HO} (F : Fd H d) (h : H a = none) : Fd (upd H a o) d := F.same (Same.new h)
theorem Fd.ne {H : Hp} {d a : Addr} (F : Fd H d) (h : H a = none) : a ≠ d := by
  obtain ⟨c, i, l, t, ns, h1, h2, h3, h4⟩ := F.ex
  exact (ne_of_none h1 h).symm
theorem Fd.nl {H : Hp} {d a : Addr} {xs : List V} (F : Fd H d) (h : H a = some (.lst xs)) : a ≠ d := by
  obtain ⟨c, i, l, t, ns, h1, h2, h3, h4⟩ := F.ex
  exact ne_of h h1 (by intro z; cases z)
inductive spDraw (vs : List V) (H : Hp) (Q : VK) (u3_ : XK) : Prop
  | mk : ∀ (d : Addr) (m : Int), (vs = [.ref d, .int m]) → (Fd H d) → (0 < m) → (m < 1000000) → (∀ (r : Int) (H' : Hp), 0 ≤ r → r < m → Fd H' d → SameB d H H' → Q (.int r) H') → spDraw vs H Q u3_
inductive spFeed (K : PySem.W.Frag) (vs : List V) (H : Hp) (Q : VK) (u3_ : XK) : Prop
  | mk : ∀ (a : Addr) (ns : List Int), (vs = [.ref a]) → (SqL K H a (ns.map V.int)) → (ns.length ≤ 63) → (∀ (d : Addr) (H' : Hp), H d = none → Fd H' d → Same H H' → Q (.ref d) H') → spFeed K vs H Q u3_
theorem cell_at {ns : List Int} (h : ns ≠ []) (i : Int) : ∃ n : Int, atI (ns.map V.int) (i % ((ns.map V.int).length : Int)) = some (.int n) := by
  have hl : 0 < ns.length := List.length_pos_iff.mpr h
  rw [List.length_map]
  have h0 := Int.emod_nonneg i (show (ns.length : Int) ≠ 0 by omega)
  have h1 := Int.emod_lt_of_pos i (show (0 : Int) < ns.length by omega)
  obtain ⟨k, hk⟩ := Int.eq_ofNat_of_zero_le h0
  rw [hk] at h1 ⊢
  have hk' : k < ns.length := by omega
  refine ⟨ns[k], ?_⟩
  unfold atI ixN
  rw [if_pos (by omega), if_pos (by rw [List.length_map]; omega)]
  show (ns.map V.int)[((k : Nat) : Int).toNat]? = _
  rw [Int.toNat_natCast, List.getElem?_map, List.getElem?_eq_getElem hk']
  rfl
end L2
set_option Elab.async false
set_option linter.all false
set_option maxRecDepth 100000
namespace L2
open PySem PySem.Spec PyProof.Rows Wd
mutual
inductive Dt (H : Hp) : V → PyData → Prop where
  | non : Dt H .non .none
  | bl (b : Bool) : Dt H (.bl b) (.bool b)
  | int (i : Int) : Dt H (.int i) (.int i)
  | str (x : Str) : Dt H (.str x) (.str x)
  | lst {a : Addr} {xs : List V} {ds : List PyData} : H a = some (.lst xs) → Dts H xs ds → Dt H (.ref a) (.list ds)
  | tup {a : Addr} {xs : List V} {ds : List PyData} : H a = some (.tup xs) → Dts H xs ds → Dt H (.ref a) (.tuple ds)
inductive Dts (H : Hp) : List V → List PyData → Prop where
  | nil : Dts H [] []
  | cons {v : V} {d : PyData} {vs : List V} {ds : List PyData} : Dt H v d → Dts H vs ds → Dts H (v :: vs) (d :: ds)
end
section
variable {P : Program} {w : World} {H : Hp} {h : Heap}
mutual
theorem Dt.reads (ok : HOk P w H h) : ∀ {v : V} {d : PyData}, Dt H v d → ∀ {u : Value}, RelV v u → ∃ as, Reads h u d as
  | _, _, .non, u, r => by cases r; exact ⟨_, .none⟩
  | _, _, .bl b, u, r => by cases r; exact ⟨_, .bool b⟩
  | _, _, .int i, u, r => by obtain ⟨t, rfl⟩ := r; exact ⟨_, .int i t⟩
  | _, _, .str x, u, r => by obtain ⟨t, rfl⟩ := r; exact ⟨_, .str x t⟩
  | _, _, .lst e q, u, r => by
    cases r
    obtain ⟨_, its, n, rv, g⟩ := ok _ _ e
    obtain ⟨as, ra⟩ := Dts.reads ok q rv
    exact ⟨_, .list g rfl rfl (by simpa using ra)⟩
  | _, _, .tup e q, u, r => by
    cases r
    obtain ⟨_, its, rv, ⟨ob, g, c, n, d⟩, _⟩ := ok _ _ e
    obtain ⟨as, ra⟩ := Dts.reads ok q rv
    exact ⟨_, .tuple g c d (by simpa using ra)⟩
theorem Dts.reads (ok : HOk P w H h) : ∀ {vs : List V} {ds : List PyData}, Dts H vs ds → ∀ {us : List Value}, Vals vs us → ∃ as, ReadsAll h us ds as
  | _, _, .nil, _, r => by cases r; exact ⟨_, .nil⟩
  | _, _, .cons q qs, _, r => by
    cases r with
    | cons r rs =>
      obtain ⟨as, a1⟩ := Dt.reads ok q r
      obtain ⟨bs, a2⟩ := Dts.reads ok qs rs
      exact ⟨_, .cons a1 a2⟩
end
end
structure Sh (d : PyData) : Prop where
  sh : d.showable = true
  nd : d.hasDict = false
  dp : d.depth ≤ 10
  sz : d.shown.length ≤ sizeLine
section
variable {X : Cx}
inductive call_repr_dat_r  (xs : List V) (H : Hp) (Q : VK) : Prop
  | mk : ∀ a d, (xs = [.ref a]) → (Dt H (.ref a) d) → (Sh d) → (Q (.str d.shown) H) → call_repr_dat_r xs H Q
theorem call_repr_dat (hg : X.A.guards = some []) (hu : X.A.units + 64 < cLine) : CallR X (.builtin "repr") call_repr_dat_r := by
  intro pins s σ H xs us Q I r h
  obtain ⟨a, d, rfl, q, S, hQ⟩ := h
  obtain ⟨u, rfl, ru⟩ := vals1 r
  cases ru
  obtain ⟨as, rd⟩ := q.reads I.hok (u := .ref a) rfl
  refine repr_of_reads' rd S.sh (PyData.noDict_hsm S.nd) hg (by have := S.dp; omega) (fun _ _ e => e) (fun h' u tk hk => ?_) S.sz
  exact ⟨.str _, H, I.kept hk, ⟨_, rfl⟩, hQ⟩
end
noncomputable def Least (m : Str) (ys : List Str) : Prop := m ∈ ys ∧ ∀ y ∈ ys, m.cps.toList ≤ y.cps.toList
theorem Least.one {m n : Str} {ys : List Str} (a : Least m ys) (b : Least n ys) : m = n :=
  Str.ext' (Array.toList_inj.mp (List.le_antisymm (a.2 n b.1) (b.2 m a.1)))
theorem Least.perm {m : Str} {ys zs : List Str} (a : Least m ys) (p : ys.Perm zs) : Least m zs := ⟨p.mem_iff.mp a.1, fun y hy => a.2 y (p.mem_iff.mpr hy)⟩
theorem least_rising : ∀ (r : List Str) (x : Str), risingS x r = true → Least x (x :: r)
  | [], x, _ => ⟨by simp, fun y hy => by rw [List.mem_singleton.mp hy]; exact List.le_refl _⟩
  | z :: r, x, h => by
    unfold risingS at h
    rw [Bool.and_eq_true] at h
    have h1 : x.cps.toList ≤ z.cps.toList := by
      have := h.1
      rw [ltCps_eq] at this
      exact List.not_lt.mp (by simpa using this)
    have ih := least_rising r z h.2
    refine ⟨by simp, fun y hy => ?_⟩
    rcases List.mem_cons.mp hy with e | hy
    · rw [e]; exact List.le_refl _
    · exact List.le_trans h1 (ih.2 y hy)
noncomputable def strAt (ys : List Str) (i : Nat) : Str := ys.getD i Str.empty
noncomputable def btS (ys : List Str) (i j : Nat) : Bool := decide ((strAt ys i).cps.toList < (strAt ys j).cps.toList)
theorem best_least (ys : List Str) : ∀ k, argBest (btS ys) k ≤ k ∧ ∀ j, j ≤ k → (strAt ys (argBest (btS ys) k)).cps.toList ≤ (strAt ys j).cps.toList
  | 0 => ⟨Nat.le_refl _, fun j hj => by
    have : j = 0 := by omega
    subst this
    exact List.le_refl _⟩
  | k + 1 => by
    obtain ⟨h1, h2⟩ := best_least ys k
    have e : argBest (btS ys) (k + 1) = if btS ys (k + 1) (argBest (btS ys) k) = true then k + 1 else argBest (btS ys) k := rfl
    rw [e]
    by_cases h : btS ys (k + 1) (argBest (btS ys) k) = true
    · rw [if_pos h]
      have h : (strAt ys (k + 1)).cps.toList < (strAt ys (argBest (btS ys) k)).cps.toList := of_decide_eq_true h
      refine ⟨Nat.le_refl _, fun j hj => ?_⟩
      by_cases e : j = k + 1
      · subst e; exact List.le_refl _
      · exact List.le_trans (List.le_of_lt h) (h2 j (by omega))
    · rw [if_neg h]
      have h : ¬ (strAt ys (k + 1)).cps.toList < (strAt ys (argBest (btS ys) k)).cps.toList := fun z => h (decide_eq_true z)
      refine ⟨by omega, fun j hj => ?_⟩
      by_cases e : j = k + 1
      · subst e; exact List.not_lt.mp h
      · exact h2 j (by omega)
theorem vals_of_strs : ∀ {us : List Value} {ys : List Str}, StrsAre us ys → Vals (ys.map V.str) us
  | _, _, .nil => .nil
  | _, _, .cons y t r => .cons ⟨t, rfl⟩ (vals_of_strs r)
section
variable {X : Cx}
inductive call_sorted_strs_r (K : PySem.W.Frag) (xs : List V) (H : Hp) (Q : VK) : Prop
  | mk : ∀ l ys, (xs = [.ref l]) → (SqL K H l (ys.map V.str)) → (ys.length < 64) → (∀ p zs, H p = none → zs.Perm ys → (∀ m r, zs = m :: r → Least m ys) → Q (.ref p) (upd H p (.lst (zs.map V.str)))) → call_sorted_strs_r K xs H Q
theorem call_sorted_strs : CallR X (.builtin "sorted") (call_sorted_strs_r X.K) := by
  intro pins s σ H xs us Q I r h
  obtain ⟨l, ys, rfl, hq, h64, q⟩ := h
  obtain ⟨u, rfl, ru⟩ := vals1 r
  cases ru
  obtain ⟨its, rv, pl, hz⟩ := I.list hq
  have hS := strsAre_of rv
  have hlen : its.length = ys.length := by rw [← rv.length, List.length_map]
  refine sorted_strs pl.isList hS (by omega) fun out zs hO hp hs => ?_
  obtain ⟨e, he⟩ := sortedAll_at s.heap its out
  have hv : Vals (zs.map V.str) out.toList := vals_of_strs hO
  have I2 : Inv X pins σ (upd H (s.heap.objs.size + 1) (.lst (zs.map V.str))) { s with heap := sortedAll s.heap its out, toks := s.toks } :=
    I.laid (fun b o e => sortedAll_old e) (Nat.le_succ _) ⟨by rw [List.length_map, hp.length_eq]; rw [List.length_map] at hz; exact hz, out.toList, e, hv, by simpa [seqObj] using he⟩
  refine ⟨.ref (s.heap.objs.size + 1), _, I2, rfl, q _ zs (I.hok.fresh (Nat.le_succ _)) hp fun m r em => ?_⟩
  subst em
  exact (least_rising r m hs).perm hp
end
end L2
set_option Elab.async false
set_option linter.all false
set_option maxRecDepth 100000
set_option maxHeartbeats 0
namespace Kx
open PySem PySem.Spec PyProof.Rows L2 Wd
theorem b_list : bootBuiltins "list" = some (.type "list") := by kernel_rfl
theorem b_int : bootBuiltins "int" = some (.type "int") := by kernel_rfl
theorem b_max : bootBuiltins "max" = some (.builtin "max") := by kernel_rfl
theorem b_repr : bootBuiltins "repr" = some (.builtin "repr") := by kernel_rfl
theorem b_min : bootBuiltins "min" = some (.builtin "min") := by kernel_rfl
theorem b_sorted : bootBuiltins "sorted" = some (.builtin "sorted") := by kernel_rfl
theorem b_tuple : bootBuiltins "tuple" = some (.type "tuple") := by kernel_rfl
theorem b_isinstance : bootBuiltins "isinstance" = some (.builtin "isinstance") := by kernel_rfl
theorem b_all : bootBuiltins "all" = some (.builtin "all") := by kernel_rfl
theorem b_str : bootBuiltins "str" = some (.type "str") := by kernel_rfl
theorem b_reversed : bootBuiltins "reversed" = some (.type "reversed") := by kernel_rfl
structure Bt (K : PySem.W.Frag) (w : World) (mg : Str → Option Value) (aB : Addr) : Prop where
  len : mg "len" = none
  repr : mg "repr" = none
  abs : mg "abs" = none
  max : mg "max" = none
  int : mg "int" = none
  list : mg "list" = none
  range : mg "range" = none
  reversed : mg "reversed" = none
  min : mg "min" = none
  sorted : mg "sorted" = none
  tuple : mg "tuple" = none
  isinstance : mg "isinstance" = none
  all : mg "all" = none
  str : mg "str" = none
  zip : mg "zip" = none
  mgB : mg "BACKS" = some (.ref aB)
  dB : DTx K w aB
  gB : ∀ x : L, ∃ t, PySem.W.nsIn K aB (toS [x]) = some (some (.str (toS [inv x]) t))
theorem dg {H : Hp} {d : Addr} {kvs : List (Key × V)} {k : Str} {v : V} (h : H d = some (.dK kvs)) (e : valV kvs (kS k) = some v) : DGet H d (.str k) (some v) := by
  have q := DGet.k (k := kS k) h
  rw [e] at q
  exact q
theorem dp {H : Hp} {d : Addr} {kvs kvs' : List (Key × V)} {k : Str} {v : V} (h : H d = some (.dK kvs)) (hl : kvs.length < sizeLine) (e : putK kvs (kS k) v = kvs') : DPut H d (.str k) v (upd H d (.dK kvs')) := by
  have q := DPut.k (k := kS k) (v := v) h hl
  rw [e] at q
  exact q
theorem cut63 {ns : List Int} (h : ns.length ≤ 63) : cutV (ns.map V.int) none (some 63) = ns.map V.int := by
  unfold cutV
  have e : HT.sIx (ns.map V.int).length (ns.map V.int).length (some 63) = (ns.map V.int).length := by
    have := HT.sIx_nat (ns.map V.int).length (ns.map V.int).length 63
    rw [show ((63 : Nat) : Int) = 63 from rfl] at this
    rw [this, List.length_map]
    omega
  rw [e, HT.sIx_none, List.drop_zero, Nat.sub_zero, List.take_length]
noncomputable def ones (w : List L) : List V := w.map fun x => tx [x]
theorem ones_str (w : List L) : ones w = (w.map fun x => toS [x]).map V.str := by unfold ones; rw [List.map_map]; rfl
theorem ones_snoc (w : List L) (x : L) : ones w ++ [tx [x]] = ones (w ++ [x]) := by unfold ones; rw [List.map_append]; rfl
theorem ones_length (w : List L) : (ones w).length = w.length := by unfold ones; rw [List.length_map]
theorem join_ones (w : List L) : V.str (Txt.join ("" : Str) (w.map fun x => toS [x])) = tx w := congrArg V.str (join_one w)
theorem join_room (w : List L) (h : w.length ≤ 1000000) : ((w.map fun x => toS [x]).map (·.length)).sum + (w.map fun x => toS [x]).length * ("" : Str).length ≤ 16777216 := by
  have e : ("" : Str).length = 0 := by decide +kernel
  rw [e, sum_one]
  omega
theorem line16 : sizeLine = 16777216 := sizeLine_eq
inductive spBk (vs : List V) (H : Hp) (Q : VK) (u3_ : XK) : Prop
  | mk : ∀ w, (vs = [tx w]) → (w.length ≤ 5000) → (∀ H', Same H H' → Q (tx (bk w)) H') → spBk vs H Q u3_
inductive spRed (vs : List V) (H : Hp) (Q : VK) (u3_ : XK) : Prop
  | mk : ∀ w, (vs = [tx w]) → (w.length ≤ 5000) → (∀ H', Same H H' → Q (tx (red w)) H') → spRed vs H Q u3_
theorem tx_app (u v : List L) : V.str (toS u ++ toS v) = tx (u ++ v) := congrArg V.str (toS_append u v)
noncomputable def sg (m : Int) : List L := ([0, 1, 2, 3, 4, 5] : List L).take m.toNat ++ ([6, 7, 8, 9, 10, 11] : List L).take m.toNat
theorem sg_length {m : Int} (h1 : 1 ≤ m) (h2 : m ≤ 6) : (sg m).length = 2 * m.toNat := by
  unfold sg
  rw [List.length_append, List.length_take, List.length_take]
  simp only [List.length_cons, List.length_nil]
  omega
inductive spSome (vs : List V) (H : Hp) (Q : VK) (u3_ : XK) : Prop
  | mk : ∀ (d : Addr) (m n : Int), (vs = [.ref d, .int m, .int n]) → (Fd H d) → (1 ≤ m) → (m ≤ 6) → (0 ≤ n) → (n ≤ 60) → (∀ (u : List L) (H' : Hp), u.length ≤ n.toNat → Fd H' d → SameB d H H' → Q (tx u) H') → spSome vs H Q u3_
theorem slice_sg {m : Int} (h1 : 1 ≤ m) : V.str (Txt.slice ("abcdef" : Str) none (some m) ++ Txt.slice ("ABCDEF" : Str) none (some m)) = tx (sg m) := by
  rw [← small, ← big, slice_toS, slice_toS, cut_to _ (by omega), cut_to _ (by omega), tx_app]
  rfl
theorem len_sm : ("abcdef" : Str).length = 6 := by decide +kernel
theorem len_bg : ("ABCDEF" : Str).length = 6 := by decide +kernel
theorem bk_get (u : List L) {i : Nat} {y : L} (hi : i < u.length) (h : u[u.length - 1 - i]? = some y) : (bk u)[i]? = some (inv y) := by
  unfold bk
  rw [List.getElem?_reverse (by rw [List.length_map]; exact hi), List.length_map, List.getElem?_map, h]
  rfl
theorem take_snoc {u : List L} {i : Nat} {x : L} (h : u[i]? = some x) : u.take (i + 1) = u.take i ++ [x] := by
  obtain ⟨hl, e⟩ := List.getElem?_eq_some_iff.mp h
  rw [List.take_add_one, h]
  rfl
theorem iteC {c : Bool} {A B : Prop} (hc : c = true) (h : A) : if c = true then A else B := by rw [if_pos hc]; exact h
theorem iteD {c : Bool} {A B : Prop} (hc : c = false) (h : B) : if c = true then A else B := by rw [hc]; exact iteF h
theorem sm6 : ∀ j : Fin 6, ([0, 1, 2, 3, 4, 5] : List L)[j.val]? = some ⟨j.val, Nat.lt_trans j.isLt (by decide)⟩ := by decide
theorem small_at {q : Int} (h0 : 0 ≤ q) (h6 : q < 6) : ∃ x : L, x.val < 6 ∧ atI ("abcdef" : Str).cps.toList q = some (cp x) := by
  have hk : q.toNat < 6 := by omega
  refine ⟨⟨q.toNat, by omega⟩, hk, ?_⟩
  rw [← small]
  refine atI_toS (k := q.toNat) (by omega) ?_
  exact sm6 ⟨q.toNat, hk⟩
theorem two_at (x : L) {q : Int} (h0 : 0 ≤ q) (h2 : q < 2) : ∃ y : L, atI [tx [x], tx [inv x]] q = some (tx [y]) := by
  have : q = 0 ∨ q = 1 := by omega
  rcases this with rfl | rfl
  · exact ⟨x, rfl⟩
  · exact ⟨inv x, rfl⟩
end Kx
set_option linter.all false
namespace Wd
end Wd
set_option linter.all false
namespace Wd
noncomputable def J (u v : List L) : Prop := ∀ x y, u.getLast? = some x → v.head? = some y → y ≠ inv x
theorem rd_append : ∀ (u v : List L), Rd (u ++ v) ↔ Rd u ∧ Rd v ∧ J u v
  | [], v => by
    constructor
    · intro h
      exact ⟨trivial, h, fun x y hx => by simp at hx⟩
    · intro h
      exact h.2.1
  | [x], [] => by
    constructor
    · intro h
      exact ⟨trivial, trivial, fun x y _ hy => by simp at hy⟩
    · intro _
      exact trivial
  | [x], y :: v => by
    constructor
    · intro h
      refine ⟨trivial, h.2, fun a b ha hb => ?_⟩
      have ha : x = a := by simpa using ha
      have hb : y = b := by simpa using hb
      subst ha hb
      exact h.1
    · intro h
      exact ⟨h.2.2 x y rfl rfl, h.2.1⟩
  | x :: y :: u, v => by
    have ih := rd_append (y :: u) v
    constructor
    · intro h
      have h2 := ih.mp h.2
      refine ⟨⟨h.1, h2.1⟩, h2.2.1, fun a b ha hb => h2.2.2 a b ?_ hb⟩
      rw [List.getLast?_cons_cons] at ha
      exact ha
    · intro h
      refine ⟨h.1.1, ih.mpr ⟨h.1.2, h.2.1, fun a b ha hb => h.2.2 a b ?_ hb⟩⟩
      rw [List.getLast?_cons_cons]
      exact ha
theorem inv_eq {x y : L} (h : y = inv x) : x = inv y := by rw [h, inv_inv]
theorem rd_rev : ∀ {w : List L}, Rd w → Rd w.reverse
  | [], _ => trivial
  | x :: w, h => by
    rw [List.reverse_cons, rd_append]
    refine ⟨rd_rev h.tail, trivial, fun a b ha hb => ?_⟩
    have hb : x = b := by simpa using hb
    subst hb
    cases w with
    | nil => simp at ha
    | cons y w =>
      have ha : y = a := by simpa using ha
      subst ha
      intro e
      exact h.1 (inv_eq e)
theorem red_of_rd {w : List L} (h : Rd w) : red w = w := by
  unfold red
  have := act_rev (rd_rev h)
  rw [List.reverse_reverse] at this
  rw [this, List.reverse_reverse]
theorem rd_red (w : List L) : Rd (red w) := rd_rev (act_rd w nil_rd)
theorem red_red (w : List L) : red (red w) = red w := red_of_rd (rd_red w)
theorem rd_bk {w : List L} (h : Rd w) : Rd (bk w) := by
  have q : ∀ w : List L, Rd w → Rd (w.map inv) := by
    intro w
    induction w with
    | nil => intro _; trivial
    | cons x w ih =>
      intro h
      cases w with
      | nil => trivial
      | cons y w => exact ⟨fun e => h.1 (by have e2 := congrArg inv e; rw [inv_inv, inv_inv] at e2; rw [e2]), ih h.2⟩
  exact rd_rev (q w h)
noncomputable def Eqv (u v : List L) : Prop := red u = red v
theorem Eqv.app {a b c d : List L} (h : Eqv a b) (h2 : Eqv c d) : Eqv (a ++ c) (b ++ d) := by
  unfold Eqv at *
  rw [← red_left, ← red_right, h, h2, red_right, red_left]
theorem Eqv.refl (a : List L) : Eqv a a := rfl
theorem Eqv.symm {a b : List L} (h : Eqv a b) : Eqv b a := Eq.symm h
theorem Eqv.trans {a b c : List L} (h : Eqv a b) (h2 : Eqv b c) : Eqv a c := Eq.trans h h2
theorem eqv_red (a : List L) : Eqv (red a) a := red_red a
theorem eqv_bk (a : List L) : Eqv (a ++ bk a) [] := red_bk a
theorem eqv_bk' (a : List L) : Eqv (bk a ++ a) [] := by
  have := eqv_bk (bk a)
  rw [bk_bk] at this
  exact this
theorem Eqv.mid {u v : List L} (a b : List L) (h : Eqv u v) : Eqv (a ++ u ++ b) (a ++ v ++ b) := ((Eqv.refl a).app h).app (Eqv.refl b)
theorem eqv_out (a b c : List L) : Eqv (a ++ (bk b ++ b) ++ c) (a ++ c) := by
  have := Eqv.mid a c (eqv_bk' b)
  rw [List.append_nil] at this
  exact this
theorem eqv_out' (a b c : List L) : Eqv (a ++ (b ++ bk b) ++ c) (a ++ c) := by
  have := Eqv.mid a c (eqv_bk b)
  rw [List.append_nil] at this
  exact this
theorem eqv_bk_of {a b : List L} (h : Eqv a b) : Eqv (bk a) (bk b) := by
  -- bk a = bk a b bk b = bk a a bk b = bk b
  have h1 : Eqv (bk a) (bk a ++ (b ++ bk b)) := by
    have := (Eqv.refl (bk a)).app (eqv_bk b)
    rw [List.append_nil] at this
    exact this.symm
  have h2 : Eqv (bk a ++ (b ++ bk b)) (bk a ++ (a ++ bk b)) := (Eqv.refl _).app (h.symm.app (.refl _))
  have h3 : Eqv (bk a ++ (a ++ bk b)) (bk b) := by
    have := (eqv_bk' a).app (Eqv.refl (bk b))
    rw [List.append_assoc, List.nil_append] at this
    exact this
  exact h1.trans (h2.trans h3)
structure Rnd (c : List L) : Prop where
  ne : c ≠ []
  rd : Rd c
  jn : J c c
end Wd
set_option Elab.async false
set_option linter.all false
set_option maxRecDepth 100000
namespace L2
open PySem PySem.Spec PyProof.Rows Wd
theorem at_neg (s b : List L) (z : L) : atI (toS (s ++ z :: b)).cps.toList (-1 - (b.length : Int)) = some (cp z) := by
  rw [toS_cps]
  unfold atI ixN
  rw [if_neg (by omega), if_pos (by rw [List.length_map, List.length_append, List.length_cons]; omega)]
  show ((s ++ z :: b).map cp)[_]? = _
  have e : (-1 - (b.length : Int) + (((s ++ z :: b).map cp).length : Int)).toNat = s.length := by rw [List.length_map, List.length_append, List.length_cons]; omega
  rw [e, List.getElem?_map, List.getElem?_append_right (Nat.le_refl _), Nat.sub_self]
  rfl
noncomputable def Bts (f : Nat → Nat) (n p q : Nat) : Prop := ∃ k, k < n ∧ (∀ t, t < k → f (p + t) = f (q + t)) ∧ f (q + k) < f (p + k)
structure LP (f : Nat → Nat) (n i j k : Nat) : Prop where
  ne : i ≠ j
  al : ∀ t, t < k → f (i + t) = f (j + t)
  bt : ∀ p, p < max i j → p ≠ i → p ≠ j → ∃ q, Bts f n p q
theorem LP.start (f : Nat → Nat) (n : Nat) : LP f n 0 1 0 := ⟨by omega, fun t h => by omega, fun p h1 h2 h3 => by omega⟩
theorem LP.on {f : Nat → Nat} {n i j k : Nat} (h : LP f n i j k) (e : f (i + k) = f (j + k)) : LP f n i j (k + 1) :=
  ⟨h.ne, fun t ht => by
    by_cases q : t = k
    · rw [q]; exact e
    · exact h.al t (by omega), h.bt⟩
theorem bts_of {f : Nat → Nat} {n i j k : Nat} (hk : k < n) (al : ∀ t, t < k → f (i + t) = f (j + t)) (l : f (j + k) < f (i + k)) {p : Nat} (h1 : i ≤ p) (h2 : p ≤ i + k) : ∃ q, Bts f n p q := by
  refine ⟨j + (p - i), k - (p - i), by omega, fun t ht => ?_, ?_⟩
  · have := al (p - i + t) (by omega)
    rw [show i + (p - i + t) = p + t by omega, show j + (p - i + t) = j + (p - i) + t by omega] at this
    exact this
  · rw [show j + (p - i) + (k - (p - i)) = j + k by omega, show p + (k - (p - i)) = i + k by omega]
    exact l
theorem LP.first {f : Nat → Nat} {n i j k : Nat} (h : LP f n i j k) (hk : k < n) (l : f (j + k) < f (i + k)) (hn : i + (k + 1) ≠ j) : LP f n (i + (k + 1)) j 0 :=
  ⟨hn, fun t ht => by omega, fun p h1 h2 h3 => by
    by_cases a : i ≤ p ∧ p ≤ i + k
    · exact bts_of hk h.al l a.1 a.2
    · exact h.bt p (by omega) (by omega) h3⟩
theorem LP.firstE {f : Nat → Nat} {n i j k : Nat} (h : LP f n i j k) (hk : k < n) (l : f (j + k) < f (i + k)) (hn : i + (k + 1) = j) : LP f n (i + (k + 1)) (j + 1) 0 :=
  ⟨by omega, fun t ht => by omega, fun p h1 h2 h3 => by
    by_cases a : i ≤ p ∧ p ≤ i + k
    · exact bts_of hk h.al l a.1 a.2
    · exact h.bt p (by omega) (by omega) (by omega)⟩
theorem LP.second {f : Nat → Nat} {n i j k : Nat} (h : LP f n i j k) (hk : k < n) (l : f (i + k) < f (j + k)) (hn : i ≠ j + (k + 1)) : LP f n i (j + (k + 1)) 0 :=
  ⟨hn, fun t ht => by omega, fun p h1 h2 h3 => by
    by_cases a : j ≤ p ∧ p ≤ j + k
    · exact bts_of hk (fun t ht => (h.al t ht).symm) l a.1 a.2
    · exact h.bt p (by omega) h2 (by omega)⟩
theorem LP.secondE {f : Nat → Nat} {n i j k : Nat} (h : LP f n i j k) (hk : k < n) (l : f (i + k) < f (j + k)) (hn : i = j + (k + 1)) : LP f n i (j + (k + 1) + 1) 0 :=
  ⟨by omega, fun t ht => by omega, fun p h1 h2 h3 => by
    by_cases a : j ≤ p ∧ p ≤ j + k
    · exact bts_of hk (fun t ht => (h.al t ht).symm) l a.1 a.2
    · exact h.bt p (by omega) h2 (by omega)⟩
theorem LP.fin {f : Nat → Nat} {n i j k p : Nat} (h : LP f n i j k) (hf : ∀ t, f (t + n) = f t) (hn : 0 < n) (e : n ≤ max i j ∨ n ≤ k) (hp : p < n) (hb : ∀ q, ¬ Bts f n p q) : ∀ t, f (min i j + t) = f (p + t) := by
  by_cases e1 : n ≤ max i j
  · have : p = i ∨ p = j := by
      apply Classical.byContradiction
      intro c
      obtain ⟨q, hq⟩ := h.bt p (by omega) (by omega) (by omega)
      exact hb q hq
    have hne := h.ne
    have : p = min i j := by omega
    intro t
    rw [this]
  have e2 : n ≤ k := by omega
  have hper : ∀ m t, f (t + m * n) = f t := fun m => by
    induction m with
    | zero => intro t; rw [Nat.zero_mul, Nat.add_zero]
    | succ m ih => intro t; rw [Nat.succ_mul, ← Nat.add_assoc, hf, ih]
  have al : ∀ t, f (i + t) = f (j + t) := fun t => by
    have := h.al (t % n) (by have := Nat.mod_lt t hn; omega)
    have e : t = t % n + t / n * n := by rw [Nat.mul_comm]; exact (Nat.mod_add_div t n).symm
    rw [e, ← Nat.add_assoc, ← Nat.add_assoc, hper, hper, this]
  obtain ⟨a, b, hab, emin, emax, al⟩ : ∃ a b, a < b ∧ a = min i j ∧ b = max i j ∧ ∀ t, f (a + t) = f (b + t) := by
    have hne := h.ne
    by_cases q : i < j
    · exact ⟨i, j, q, by omega, by omega, al⟩
    · exact ⟨j, i, by omega, by omega, by omega, fun t => (al t).symm⟩
  have down : ∀ N q, q < N → ∃ q', q' < b ∧ ∀ t, f (q' + t) = f (q + t) := by
    intro N
    induction N with
    | zero => intro q hq; omega
    | succ N ih =>
      intro q hq
      by_cases c : q < b
      · exact ⟨q, c, fun _ => rfl⟩
      · obtain ⟨q', h1, h2⟩ := ih (q - (b - a)) (by omega)
        refine ⟨q', h1, fun t => ?_⟩
        rw [h2 t]
        have := al (q - b + t)
        rw [show a + (q - b + t) = q - (b - a) + t by omega, show b + (q - b + t) = q + t by omega] at this
        exact this
  obtain ⟨q', h1, h2⟩ := down (p + 1) p (by omega)
  have : q' = a := by
    apply Classical.byContradiction
    intro c
    obtain ⟨q, k', hk', h3, h4⟩ := h.bt q' (by omega) (by omega) (by omega)
    exact hb q ⟨k', hk', fun t ht => by rw [← h2]; exact h3 t ht, by rw [← h2]; exact h4⟩
  intro t
  rw [← emin, ← this]
  exact h2 t
noncomputable def rnd (w : List L) (t : Nat) : Nat := ((w.map cp)[t % w.length]?).getD 0
theorem rnd_per (w : List L) (t : Nat) : rnd w (t + w.length) = rnd w t := by unfold rnd; rw [Nat.add_mod_right]
theorem rnd_at {w : List L} {t : Nat} {x : L} (h : (w ++ w)[t]? = some x) : rnd w t = cp x := by
  unfold rnd
  have hl := (List.getElem?_eq_some_iff.mp h).1
  rw [List.length_append] at hl
  by_cases c : t < w.length
  · rw [Nat.mod_eq_of_lt c, List.getElem?_map]
    rw [List.getElem?_append_left c] at h
    rw [h]
    rfl
  · have e : t % w.length = t - w.length := by
      rw [Nat.mod_eq_sub_mod (by omega), Nat.mod_eq_of_lt (by omega)]
    rw [e, List.getElem?_map]
    rw [List.getElem?_append_right (by omega)] at h
    rw [h]
    rfl
noncomputable def rotN (w : List L) (p : Nat) : List Nat := (List.range w.length).map fun t => rnd w (p + t)
theorem rotN_eq {w : List L} {p : Nat} (h : p ≤ w.length) : (w.drop p ++ w.take p).map cp = rotN w p := by
  apply List.ext_getElem?
  intro t
  unfold rotN
  by_cases c : t < w.length
  · rw [List.getElem?_map, List.getElem?_map, List.getElem?_range c]
    show _ = some (rnd w (p + t))
    by_cases d : p + t < w.length
    · rw [List.getElem?_append_left (by rw [List.length_drop]; omega), List.getElem?_drop]
      obtain ⟨x, hx⟩ : ∃ x, w[p + t]? = some x := ⟨_, List.getElem?_eq_getElem d⟩
      rw [hx, rnd_at (x := x) (by rw [List.getElem?_append_left d]; exact hx)]
      rfl
    · rw [List.getElem?_append_right (by rw [List.length_drop]; omega), List.length_drop, List.getElem?_take_of_lt (by omega)]
      obtain ⟨x, hx⟩ : ∃ x, w[t - (w.length - p)]? = some x := ⟨_, List.getElem?_eq_getElem (by omega)⟩
      rw [hx, rnd_at (x := x) (by rw [List.getElem?_append_right (by omega), show p + t - w.length = t - (w.length - p) by omega]; exact hx)]
      rfl
  · rw [List.getElem?_eq_none (by simp; omega), List.getElem?_eq_none (by simp; omega)]
theorem rotN_lt {w : List L} {p q : Nat} (h : Bts (rnd w) w.length p q) : rotN w q < rotN w p := by
  obtain ⟨k, hk, h1, h2⟩ := h
  unfold rotN
  rw [List.lt_iff_exists]
  refine .inr ⟨k, by simpa using hk, by simpa using hk, fun j hj => ?_, ?_⟩
  · simp only [List.getElem_map, List.getElem_range]
    exact (h1 j hj).symm
  · simp only [List.getElem_map, List.getElem_range]
    exact h2
theorem rotN_mod (w : List L) (q : Nat) : rotN w (q % w.length) = rotN w q := by
  unfold rotN
  apply List.map_congr_left
  intro t _
  unfold rnd
  rw [Nat.mod_add_mod]
noncomputable def rots (w : List L) : List (List L) := (List.range (max 1 w.length)).map fun i => w.drop i ++ w.take i
theorem least_is (ys : List Str) (h : ys ≠ []) : ∃ m, Least m ys := by
  have hp : 0 < ys.length := List.length_pos_iff.mpr h
  obtain ⟨h1, h2⟩ := best_least ys (ys.length - 1)
  have q : ∀ i, i < ys.length → strAt ys i ∈ ys := fun i hi => by
    unfold strAt
    rw [List.getD_eq_getElem?_getD, List.getElem?_eq_getElem hi]
    exact List.getElem_mem hi
  refine ⟨strAt ys (argBest (btS ys) (ys.length - 1)), q _ (by omega), fun y hy => ?_⟩
  obtain ⟨j, hj, e⟩ := List.getElem_of_mem hy
  have := h2 j (by omega)
  have e2 : strAt ys j = y := by
    unfold strAt
    rw [List.getD_eq_getElem?_getD, List.getElem?_eq_getElem hj, e]
    rfl
  rw [e2] at this
  exact this
theorem LP.least {w : List L} {i j k : Nat} (h : LP (rnd w) w.length i j k) (e : w.length ≤ max i j ∨ w.length ≤ k) (h0 : w ≠ []) : Least (toS (w.drop (min i j) ++ w.take (min i j))) ((rots w).map toS) ∧ min i j < w.length := by
  have hn : 0 < w.length := List.length_pos_iff.mpr h0
  obtain ⟨m, hm⟩ := least_is ((rots w).map toS) (by
    intro e
    have := congrArg List.length e
    simp [rots] at this)
  obtain ⟨v, hv, ev⟩ := List.mem_map.mp hm.1
  obtain ⟨p, hp, ep⟩ := List.mem_map.mp hv
  rw [List.mem_range] at hp
  have hp : p < w.length := by omega
  have mem : ∀ q, q < w.length → toS (w.drop q ++ w.take q) ∈ (rots w).map toS := fun q hq => List.mem_map_of_mem (List.mem_map.mpr ⟨q, List.mem_range.mpr (by omega), rfl⟩)
  have hb : ∀ q, ¬ Bts (rnd w) w.length p q := fun q hq => by
    have lt := rotN_lt hq
    rw [← rotN_mod w q] at lt
    have hq' := Nat.mod_lt q hn
    have le := hm.2 _ (mem _ hq')
    rw [← ev, ← ep, toS_cps, toS_cps, rotN_eq (by omega), rotN_eq (by omega)] at le
    exact absurd lt (List.not_lt.mpr le)
  have al := h.fin (rnd_per w) hn e hp hb
  by_cases hmn : min i j < w.length
  · refine ⟨?_, hmn⟩
    have e1 : toS (w.drop (min i j) ++ w.take (min i j)) = m := by
      rw [← ev, ← ep]
      apply Str.ext'
      apply Array.toList_inj.mp
      rw [toS_cps, toS_cps, rotN_eq (by omega), rotN_eq (by omega)]
      unfold rotN
      exact List.map_congr_left fun t _ => al t
    rw [e1]
    exact hm
  · exfalso
    have hne := h.ne
    obtain ⟨q, hq⟩ := h.bt p (by omega) (by omega) (by omega)
    exact hb q hq
end L2
set_option linter.all false
namespace Wd
noncomputable def Cj (u v : List L) : Prop := ∃ t, Eqv (t ++ u ++ bk t) v
noncomputable def Rt (m p : List L) : Prop := ∃ a b, m = a ++ b ∧ p = b ++ a
theorem Rt.refl (m : List L) : Rt m m := ⟨[], m, rfl, by simp⟩
theorem Rt.symm {m p : List L} (h : Rt m p) : Rt p m := let ⟨a, b, e, f⟩ := h; ⟨b, a, f, e⟩
theorem Rt.len {m p : List L} (h : Rt m p) : m.length = p.length := by
  obtain ⟨a, b, rfl, rfl⟩ := h
  rw [List.length_append, List.length_append]
  omega
theorem Rt.trans {m p q : List L} (h : Rt m p) (g : Rt p q) : Rt m q := by
  obtain ⟨a, b, rfl, e⟩ := h
  obtain ⟨c, d, f, rfl⟩ := g
  have e : b ++ a = c ++ d := e.symm.trans f
  rcases List.append_eq_append_iff.mp e with ⟨x, rfl, rfl⟩ | ⟨x, rfl, rfl⟩
  · exact ⟨x, d ++ b, by simp, by simp⟩
  · exact ⟨a ++ c, x, by simp, by simp⟩
theorem cj_rt {m p : List L} (h : Rt m p) : Cj m p := by
  obtain ⟨a, b, rfl, rfl⟩ := h
  refine ⟨bk a, ?_⟩
  rw [bk_bk]
  have := eqv_out [] a (b ++ a)
  simpa using this
theorem Cj.symm {u v : List L} (h : Cj u v) : Cj v u := by
  obtain ⟨t, h⟩ := h
  refine ⟨bk t, ?_⟩
  rw [bk_bk]
  have h1 : Eqv (bk t ++ v ++ t) (bk t ++ (t ++ u ++ bk t) ++ t) := Eqv.mid _ _ h.symm
  refine h1.trans ?_
  have h2 : Eqv (bk t ++ (t ++ u ++ bk t) ++ t) (u ++ (bk t ++ t)) := by
    have := eqv_out [] t (u ++ bk t ++ t)
    simpa using this
  refine h2.trans ?_
  have := eqv_out u t []
  simpa using this
theorem Cj.trans {u v x : List L} (h : Cj u v) (g : Cj v x) : Cj u x := by
  obtain ⟨t, h⟩ := h
  obtain ⟨r, g⟩ := g
  refine ⟨r ++ t, ?_⟩
  have h1 : Eqv (r ++ (t ++ u ++ bk t) ++ bk r) (r ++ v ++ bk r) := Eqv.mid _ _ h
  have e : r ++ t ++ u ++ bk (r ++ t) = r ++ (t ++ u ++ bk t) ++ bk r := by rw [bk_append]; simp
  rw [e]
  exact h1.trans g
noncomputable def R0 (m : List L) : Prop := m ≠ [] → Rnd m
theorem rnd_turn {x : L} {r : List L} (h : Rnd (x :: r)) : Rnd (r ++ [x]) := by
  obtain ⟨_, h2, h3⟩ := h
  refine ⟨by simp, ?_, ?_⟩
  · rw [rd_append]
    refine ⟨h2.tail, trivial, fun a b ha hb => ?_⟩
    have hb : x = b := Option.some.inj hb
    subst hb
    refine h3 a x ?_ rfl
    rw [List.getLast?_cons, ha]
    rfl
  · intro a b ha hb
    have ha : x = a := by simpa using ha
    subst ha
    cases r with
    | nil =>
      have hb : x = b := Option.some.inj hb
      subst hb
      exact fun e => inv_ne _ e.symm
    | cons y r =>
      have hb : y = b := Option.some.inj hb
      subst hb
      exact h2.1
theorem rnd_turn' {x : L} {r : List L} (h : Rnd (r ++ [x])) : Rnd (x :: r) := by
  obtain ⟨_, h2, h3⟩ := h
  rw [rd_append] at h2
  obtain ⟨h4, _, h5⟩ := h2
  have lx : (r ++ [x]).getLast? = some x := by simp
  refine ⟨by simp, ?_, ?_⟩
  · cases r with
    | nil => trivial
    | cons y r => exact ⟨h3 x y lx rfl, h4⟩
  · intro a b ha hb
    have hb : x = b := Option.some.inj hb
    subst hb
    cases r with
    | nil =>
      have ha : x = a := Option.some.inj ha
      subst ha
      exact fun e => inv_ne _ e.symm
    | cons y r =>
      refine h5 a x ?_ rfl
      rw [List.getLast?_cons] at ha
      rw [← ha]
      cases hq : (y :: r).getLast? with
      | none => simp at hq
      | some z => rfl
theorem conj_round : ∀ (n : Nat) (s m p : List L), s.length ≤ n → Rd s → Rnd m → R0 p → Rd p → Eqv (s ++ m ++ bk s) p → Rt m p := by
  intro n
  induction n with
  | zero =>
    intro s m p hs _ hm _ hp h
    have : s = [] := List.eq_nil_of_length_eq_zero (by omega)
    subst this
    have e : red m = red p := by simpa [Eqv, bk] using h
    rw [red_of_rd hm.rd, red_of_rd hp] at e
    rw [e]
    exact Rt.refl _
  | succ n ih =>
    intro s m p hs hr hm hp0 hp h
    by_cases hs0 : s = []
    · subst hs0
      exact ih [] m p (Nat.zero_le _) trivial hm hp0 hp h
    obtain ⟨s', x, rfl⟩ : ∃ s' x, s = s' ++ [x] := ⟨s.dropLast, s.getLast hs0, (List.dropLast_concat_getLast hs0).symm⟩
    have hl : s'.length ≤ n := by rw [List.length_append, List.length_singleton] at hs; omega
    have hr' := (rd_append s' [x]).mp hr
    have eb : bk (s' ++ [x]) = inv x :: bk s' := by rw [bk_append, bk_one]; rfl
    rw [eb] at h
    -- the first letter goes
    by_cases c1 : m.head? = some (inv x)
    · obtain ⟨r, rfl⟩ : ∃ r, m = inv x :: r := by
        cases m with
        | nil => cases c1
        | cons y r => exact ⟨r, by rw [Option.some.inj c1]⟩
      have h2 : Eqv (s' ++ (r ++ [inv x]) ++ bk s') p := by
        refine Eqv.trans ?_ h
        have := (eqv_out' s' [x] (r ++ [inv x] ++ bk s')).symm
        rw [bk_one] at this
        simpa using this
      have q := ih s' (r ++ [inv x]) p hl hr'.1 (rnd_turn hm) hp0 hp h2
      exact Rt.trans ⟨[inv x], r, rfl, rfl⟩ q
    by_cases c2 : m.getLast? = some x
    · obtain ⟨r, rfl⟩ : ∃ r, m = r ++ [x] := by
        have hne := hm.ne
        refine ⟨m.dropLast, ?_⟩
        have e := (List.dropLast_concat_getLast hne).symm
        rw [List.getLast?_eq_some_getLast hne] at c2
        rw [Option.some.inj c2] at e
        exact e
      have h2 : Eqv (s' ++ (x :: r) ++ bk s') p := by
        refine Eqv.trans ?_ h
        have := (eqv_out' (s' ++ x :: r) [x] (bk s')).symm
        rw [bk_one] at this
        simpa using this
      have q := ih s' (x :: r) p hl hr'.1 (rnd_turn' hm) hp0 hp h2
      exact Rt.trans ⟨r, [x], rfl, rfl⟩ q
    -- else all stays, and is not round
    exfalso
    have rdl : Rd (s' ++ [x] ++ m) := by
      rw [rd_append]
      refine ⟨hr, hm.rd, fun a b ha hb => ?_⟩
      have ha : x = a := by simpa using ha
      subst ha
      intro e
      exact c1 (by rw [hb, e])
    have rdr : Rd (s' ++ [x] ++ m ++ (inv x :: bk s')) := by
      rw [rd_append]
      refine ⟨rdl, ?_, fun a b ha hb => ?_⟩
      · rw [← eb]
        exact rd_bk hr
      · have hb : inv x = b := Option.some.inj hb
        subst hb
        have hla : m.getLast? = some a := by
          rw [List.getLast?_append] at ha
          cases hq : m.getLast? with
          | none => exact absurd (List.getLast?_eq_none_iff.mp hq) hm.ne
          | some z => rw [hq] at ha; simpa using ha
        intro e
        have : x = a := by have := congrArg inv e; rwa [inv_inv, inv_inv] at this
        exact c2 (by rw [hla, this])
    have ep : s' ++ [x] ++ m ++ (inv x :: bk s') = p := by
      have e : red (s' ++ [x] ++ m ++ (inv x :: bk s')) = red p := h
      rwa [red_of_rd rdr, red_of_rd hp] at e
    have hpn : p ≠ [] := by rw [← ep]; simp
    have P := hp0 hpn
    -- its first letter and its last one
    obtain ⟨y, hy, hly⟩ : ∃ y, (s' ++ [x]).head? = some y ∧ (inv x :: bk s').getLast? = some (inv y) := by
      cases s' with
      | nil => exact ⟨x, rfl, rfl⟩
      | cons z r => exact ⟨z, rfl, by rw [bk_cons, List.getLast?_cons, List.getLast?_append]; rfl⟩
    refine P.jn (inv y) y ?_ ?_ (by rw [inv_inv])
    · rw [← ep, List.getLast?_append, hly]
      rfl
    · rw [← ep, List.append_assoc, List.head?_append, hy]
      rfl
theorem cj_mid {u v f m g p : List L} (eu : red u = f ++ m ++ bk f) (ev : red v = g ++ p ++ bk g) (hm : R0 m) (hp : R0 p) : Cj u v ↔ Rt m p := by
  have hu : Eqv u (f ++ m ++ bk f) := by rw [← eu]; exact (eqv_red u).symm
  have hv : Eqv v (g ++ p ++ bk g) := by rw [← ev]; exact (eqv_red v).symm
  have rdm : Rd m := by
    have := rd_red u
    rw [eu, rd_append, rd_append] at this
    exact this.1.2.1
  have rdp : Rd p := by
    have := rd_red v
    rw [ev, rd_append, rd_append] at this
    exact this.1.2.1
  have cu : Cj m u := ⟨f, hu.symm⟩
  have cv : Cj p v := ⟨g, hv.symm⟩
  constructor
  · intro h
    obtain ⟨t, ht⟩ := (cu.trans h).trans cv.symm
    by_cases m0 : m = []
    · subst m0
      have e : Eqv [] p := by
        refine Eqv.trans ?_ ht
        rw [List.append_nil]
        exact (eqv_bk t).symm
      have e : red [] = red p := e
      rw [red_of_rd rdp] at e
      rw [← e]
      exact Rt.refl _
    · have ht' : Eqv (red t ++ m ++ bk (red t)) p := by
        refine Eqv.trans ?_ ht
        exact ((eqv_red t).app (Eqv.refl m)).app (eqv_bk_of (eqv_red t))
      exact conj_round _ (red t) m p (Nat.le_refl _) (rd_red t) (hm m0) hp rdp ht'
  · intro h
    exact (cu.symm.trans (cj_rt h)).trans cv
end Wd
namespace L2
open PySem PySem.Spec PyProof.Rows Wd
theorem rt_rots {m p : List L} : Rt m p ↔ p ∈ rots m := by
  unfold rots
  rw [List.mem_map]
  constructor
  · rintro ⟨a, b, rfl, rfl⟩
    by_cases hb : b = []
    · subst hb
      refine ⟨0, List.mem_range.mpr (by omega), by simp⟩
    · have := List.length_pos_iff.mpr hb
      refine ⟨a.length, List.mem_range.mpr (by rw [List.length_append]; omega), ?_⟩
      rw [List.drop_left' rfl, List.take_left' rfl]
  · rintro ⟨i, _, rfl⟩
    exact ⟨m.take i, m.drop i, (List.take_append_drop i m).symm, rfl⟩
theorem least_rt {m p : List L} {a b : Str} (ha : Least a ((rots m).map toS)) (hb : Least b ((rots p).map toS)) : a = b ↔ Rt m p := by
  obtain ⟨x, hx, rfl⟩ := List.mem_map.mp ha.1
  obtain ⟨y, hy, rfl⟩ := List.mem_map.mp hb.1
  constructor
  · intro e
    have e := toS_inj e
    subst e
    exact (rt_rots.mpr hx).trans (rt_rots.mpr hy).symm
  · intro h
    refine Least.one ha ⟨?_, fun z hz => ?_⟩
    · exact List.mem_map.mpr ⟨y, rt_rots.mp (h.trans (rt_rots.mpr hy)), rfl⟩
    · obtain ⟨w, hw, rfl⟩ := List.mem_map.mp hz
      exact hb.2 _ (List.mem_map.mpr ⟨w, rt_rots.mp (h.symm.trans (rt_rots.mpr hw)), rfl⟩)
end L2
set_option Elab.async false
set_option linter.all false
set_option maxRecDepth 100000
namespace L2
open PySem PySem.Spec PyProof.Rows Wd
section
variable {X : Cx} {tg : Expr}
end

section
variable {X : Cx} {o e : Expr} {es : List Expr} {to : TE} {t : TA} {name : Str} {apos cpos : Pos} {T id : String} {r : V → List V → Hp → VK → Prop} {K : PySem.W.Frag}
end

end L2
set_option Elab.async false
set_option linter.all false
set_option maxRecDepth 100000
namespace L2
open PySem PySem.Spec PyProof.Rows Wd
theorem bools_at : ∀ {bs : List Bool} {us : List Value} {i : Nat} {v : Value}, Vals (bs.map V.bl) us → us[i]? = some v → ∃ b, bs[i]? = some b ∧ v = .bool b
  | [], us, i, v, r, h => by
    rw [List.map_nil] at r
    cases r
    simp at h
  | b :: bs, us, i, v, r, h => by
    rw [List.map_cons] at r
    cases r with
    | cons r1 r2 =>
      cases i with
      | zero =>
        simp at h
        subst h
        exact ⟨b, rfl, r1⟩
      | succ i =>
        obtain ⟨b', e1, e2⟩ := bools_at (i := i) r2 (by simpa using h)
        exact ⟨b', by simpa using e1, e2⟩
theorem all_getD : ∀ bs : List Bool, ((List.range bs.length).all fun i => bs.getD i true) = bs.all id
  | [] => rfl
  | b :: bs => by
    rw [List.length_cons, List.range_succ_eq_map, List.all_cons, List.all_map, List.all_cons]
    have ih := all_getD bs
    show (b && (List.range bs.length).all fun i => (b :: bs).getD (i + 1) true) = _
    have e : (fun i => (b :: bs).getD (i + 1) true) = fun i => bs.getD i true := by funext i; simp
    rw [e, ih]
    rfl
section
variable {X : Cx}
inductive rEqNil (x : V) (y : V) (H : Hp) (Q : VK) : Prop
  | mk : ∀ a b xs, (x = .ref a) → (y = .ref b) → (H a = some (.lst xs)) → (H b = some (.lst [])) → (Q (.bl xs.isEmpty) H) → rEqNil x y H Q
theorem op_eq_nil (hu : X.A.units + 64 < cLine) : OpR X (compareOp .Eq) rEqNil := by
  intro pins s σ H x y v u Q I rx ry h
  obtain ⟨a, b, xs, rfl, rfl, ha, hb, q⟩ := h
  cases rx
  cases ry
  obtain ⟨its, n, rv, ea, _⟩ := I.lst ha
  obtain ⟨its2, n2, rv2, eb, _⟩ := I.lst hb
  cases rv2
  have hla : s.heap.IsList a its.toArray := ⟨_, ea, rfl, _, rfl⟩
  have hlb : s.heap.IsList b ([] : List Value).toArray := ⟨_, eb, rfl, _, rfl⟩
  cases xs with
  | nil =>
    cases rv
    refine EqBoolInt.of_rc (SeqAt.RcAt.lists (e := fun _ => true) hla hlb rfl (by omega) (fun j hj => by simp at hj)) ?_
    exact ⟨.bl true, H, I, rfl, q⟩
  | cons z r =>
    cases rv with
    | cons r1 r2 =>
      refine EqBoolInt.of_rc (SeqAt.RcAt.lists_lengths hla hlb (by simp) (by omega)) ?_
      exact ⟨.bl false, H, I, rfl, q⟩
inductive rAll (K : PySem.W.Frag) (xs : List V) (H : Hp) (Q : VK) : Prop
  | mk : ∀ (l : Addr) (bs : List Bool), (xs = [.ref l]) → (SqL K H l (bs.map V.bl)) → (Q (.bl (bs.all id)) H) → rAll K xs H Q
theorem call_all_bools (hc : X.calm = true) : CallR X (.builtin "all") (rAll X.K) := by
  intro pins s σ H xs us Q I r h
  obtain ⟨l, bs, rfl, hq, q⟩ := h
  obtain ⟨u, rfl, ru⟩ := vals1 r
  cases ru
  obtain ⟨its, rv, pl, _⟩ := I.list hq
  have hl := pl.isList
  have hlen : its.length = bs.length := by rw [← rv.length, List.length_map]
  have hlt : l < s.heap.objs.size := by obtain ⟨_, e, _⟩ := hl; exact Heap.lt_size e
  refine call_all_walk (wpAny_pyIter_list hl ?_)
  refine ⟨_, _, _, _, _, _, fun i => bs.getD i true, rfl, Walks.list (A := X.A.in1) (I.ok.hd hc) _ l (Nat.ne_of_lt hlt) its.toArray, ⟨⟨_, Heap.get?_push_size _ rfl, rfl, rfl⟩, hl.push _⟩, ?_, fun h' tk hk => ?_⟩
  · intro i v s' Q' E' hP hQ'
    have hP : its[i]? = some v := by simpa using hP
    obtain ⟨b, hb, e⟩ := bools_at rv hP
    subst e
    have : bs.getD i true = b := by rw [List.getD_eq_getElem?_getD, hb]; rfl
    have hQ' : Q' (bs.getD i true) s' := hQ'
    rw [this] at hQ'
    exact wpAny_truthy_bool hQ'
  · have old : ∀ b o, s.heap.get? b = some o → h'.get? b = some o := fun b o e => hk b o (fun z => by rw [List.mem_singleton.mp z] at e; exact absurd (Heap.lt_size e) (Nat.lt_irrefl _)) (Heap.get?_push_of_some _ e)
    refine ⟨.bl _, H, I.kept old, rfl, ?_⟩
    have e : ((List.range its.toArray.size).all fun i => bs.getD i true) = bs.all id := by
      rw [List.size_toArray, hlen]
      exact all_getD bs
    rw [e]
    exact q
inductive call_isinst_r (K : PySem.W.Frag) (xs : List V) (H : Hp) (Q : VK) : Prop
  | mk : ∀ x t b n, (xs = [x, .ty n]) → (TyOf K H x t) → (PySem.W.kitOne K t (.type n) = some b) → (Q (.bl b) H) → call_isinst_r K xs H Q
theorem call_isinst : CallR X (.builtin "isinstance") (call_isinst_r X.K) := by
  intro pins s σ H xs us Q I r h
  obtain ⟨x, t, b, n, rfl, ty, e, q⟩ := h
  obtain ⟨u, u2, rfl, rx, r2⟩ := vals2 r
  cases r2
  exact isinst_ok I rx ty e fun tk => ⟨.bl b, H, I.tok _, rfl, q⟩
noncomputable def tKIn (K : PySem.W.Frag) (a : Addr) (to : TE) : TE := fun σ H Q => to σ H fun y H1 => ∃ (z : Str) (r : Option Value), y = .str z ∧ PySem.W.nsIn K a z = some r ∧ Q (.bl r.isSome) H1
theorem pe_kin {K : PySem.W.Frag} {w : World} {a : Addr} {x : Str} {o : Expr} {to : TE} {p pos : Pos} (D : DTx K w a) (hK : X.K = K) (hw : X.w = w) (hlo : (a == sysModules) = false) (hg : Gl X x) (hm : X.mg x = some (.ref a)) (ho : PE X o to)
    (hd : (x == ("__debug__" : Str)) = false := by decide) : PE X (.Compare o [.In] [.Name x p] pos) (tKIn K a to) := by
  subst hK hw
  intro pins s σ H Q I h
  refine wpAny_Compare1 (thn (ho pins s σ H _ I h) fun v s1 ⟨y, H1, I1, ry, z, r, e1, e2, q⟩ => ld_glob I1 hg hm ?_ hd) rfl
  subst e1
  obtain ⟨t, rfl⟩ := ry
  obtain ⟨es, n, hl, hk⟩ := D.ob
  obtain ⟨m, F⟩ := I1.fr
  exact PySem.W.topIn_K F I1.ok.mod.kin hl hk e2 hlo ⟨.bl _, H1, I1.tok _, rfl, q⟩
inductive rIndex (x : V) (vs : List V) (H : Hp) (Q : VK) : Prop
  | mk : ∀ z y i rest, (x = .str z) → (vs = [.str y]) → (Builtin.Str.occurrences z y 0 z.length 1 = i :: rest) → (Q (.int (i : Nat)) H) → rIndex x vs H Q
theorem mt_index : MtR X "str.index" rIndex := by
  intro pins s σ H x vs v us Q I rx rv h
  obtain ⟨z, y, i, rest, rfl, rfl, ho, q⟩ := h
  obtain ⟨t, rfl⟩ := rx
  obtain ⟨u1, rfl, ⟨t1, rfl⟩⟩ := vals1 rv
  exact SC.index ho ⟨.int _, H, I.tok _, ⟨_, rfl⟩, q⟩
noncomputable def signs (z : Str) : List V := z.cps.toList.map fun c => .str ⟨#[c]⟩
theorem vals_signs {z : Str} {acc : Array Value} (h : ItemsOf (SignAt z) acc z.cps.size) : Vals (signs z) acc.toList := by
  have all : ∀ (cs : List Nat) (us : List Value), cs.length = us.length → (∀ (j : Nat) (v : Value), us[j]? = some v → ∃ c u, cs[j]? = some c ∧ v = .str ⟨#[c]⟩ u) → Vals (cs.map fun c => V.str ⟨#[c]⟩) us := by
    intro cs
    induction cs with
    | nil =>
      intro us hl _
      cases us with
      | nil => exact .nil
      | cons _ _ => simp at hl
    | cons c cs ih =>
      intro us hl hh
      cases us with
      | nil => simp at hl
      | cons u us =>
        obtain ⟨c', t, e1, e2⟩ := hh 0 u rfl
        have : c = c' := Option.some.inj e1
        subst this
        exact .cons ⟨t, e2⟩ (ih us (by simpa using hl) fun j v hj => hh (j + 1) v (by simpa using hj))
  refine all _ _ (by rw [Array.length_toList, Array.length_toList]; exact h.1.symm) fun j v hj => ?_
  obtain ⟨c, u, e1, e2⟩ := h.2 j v (by simpa using hj)
  exact ⟨c, u, by simpa using e1, e2⟩
inductive call_list_signs_r  (xs : List V) (H : Hp) (Q : VK) : Prop
  | mk : ∀ z, (xs = [.str z]) → (z.length ≤ sizeLine) → (∀ p, H p = none → Q (.ref p) (upd H p (.lst (signs z)))) → call_list_signs_r xs H Q
theorem call_list_signs (hc : X.calm = true) : CallR X (.type "list") call_list_signs_r := by
  intro pins s σ H xs us Q I r h
  obtain ⟨z, rfl, hz, q⟩ := h
  obtain ⟨u, rfl, t, rfl⟩ := vals1 r
  refine call_list_str (I.ok.hd hc) z t (fun h' tk acc' c' kp e hI => ?_) hz
  have hl : (signs z).length ≤ sizeLine := by unfold signs; rw [List.length_map, Array.length_toList]; exact hz
  exact ⟨.ref s.heap.objs.size, _, I.laid kp (Nat.le_refl _) (show ObjOk X.prog X.w _ h' _ (.lst (signs z)) from ⟨hl, acc'.toList, c', vals_signs hI, by simpa using e⟩), rfl, q _ (I.hok.fresh (Nat.le_refl _))⟩
theorem op_notIn_K {K : PySem.W.Frag} (hK : X.K = K) : OpR X (compareOp .NotIn) (rIn K true) := by
  subst hK
  exact op_notIn_seq
end
end L2
set_option Elab.async false
set_option linter.all false
set_option maxRecDepth 100000
namespace PySem
open Sem (wp)
section
variable {prog : Program} {w : World} {A : Around} {E : Value → Shared → Prop} {s : Shared} {z TI TO i1 i2 : Addr} {x y : Str} {t u : Tok} {k c d : Nat} {a b : Value}
end
end PySem
set_option Elab.async false
set_option linter.all false
set_option maxRecDepth 100000
namespace PySem
end PySem
namespace L2
open PySem PySem.Spec PyProof.Rows
section
variable {X : Cx}
end
end L2
set_option Elab.async false
set_option linter.all false
set_option maxRecDepth 100000
set_option maxHeartbeats 0
namespace L2
open PySem PySem.Spec PyProof.Rows Wd
noncomputable def notStar : Expr → Bool
  | .Starred _ _ => false
  | _ => true
theorem star_of {e : Expr} (h : notStar e = true) (es : List Expr) (env : Env) : starEach (e :: es) env = (false, eval e env) :: starEach es env := by
  cases e <;> first | rfl | cases h
theorem pa_c {X : Cx} {e : Expr} {es : List Expr} {te : TE} {t : TA} (ha : PE X e te) (hr : PA X es t) (h : notStar e = true := by rfl) : PA X (e :: es) (tCons te t) := pa_cons ha hr (star_of h _ _)
theorem call_isK {X : Cx} {K : PySem.W.Frag} (hK : X.K = K) : CallR X (.builtin "isinstance") (call_isinst_r K) := by
  subst hK
  exact call_isinst
noncomputable def ltr (c : Nat) : Option L := ([0, 1, 2, 3, 4, 5, 6, 7, 8, 9, 10, 11] : List L).find? fun x => cp x == c
theorem ltr_cp : ∀ x : L, ltr (cp x) = some x := by decide
theorem ltr_some {c : Nat} {x : L} (h : ltr c = some x) : cp x = c := by
  have := List.find?_some h
  simpa using this
noncomputable def isLet (z : Str) : Bool := match z.cps.toList with
  | [c] => (ltr c).isSome
  | _ => false
noncomputable def okC (m : Int) (c : Nat) : Bool := match ltr c with
  | some x => decide (((x.val % 6 : Nat) : Int) < m)
  | none => false
noncomputable def isW (m : Int) (z : Str) : Bool := z.cps.toList.all (okC m)
noncomputable def letV : V → Bool
  | .str z => isLet z
  | _ => false
noncomputable def wdV (m : Int) : V → Bool
  | .str z => isW m z
  | _ => false
inductive Th (K : PySem.W.Frag) (H : Hp) : V → Prop
  | str (z : Str) (h : z.length ≤ 500) : Th K H (.str z)
  | oth {x : V} {n : String} (ty : TyOf K H x (.type n)) (e : PySem.W.kitOne K (.type n) (.type "str") = some false) (ns : ∀ z, x ≠ .str z) : Th K H x
theorem letV_oth {x : V} (ns : ∀ z, x ≠ .str z) : letV x = false := by
  cases x with
  | str z => exact absurd rfl (ns z)
  | _ => rfl
theorem wdV_oth {m : Int} {x : V} (ns : ∀ z, x ≠ .str z) : wdV m x = false := by
  cases x with
  | str z => exact absurd rfl (ns z)
  | _ => rfl
theorem kit_str {K : PySem.W.Frag} : PySem.W.kitOne K (.type "str") (.type "str") = some true := by unfold PySem.W.kitOne; rw [if_pos (by rfl)]
theorem kit_non {K : PySem.W.Frag} : PySem.W.kitOne K (.type "NoneType") (.type "str") = some false := by kernel_rfl
theorem kit_bool {K : PySem.W.Frag} : PySem.W.kitOne K (.type "bool") (.type "str") = some false := by kernel_rfl
theorem kit_int {K : PySem.W.Frag} : PySem.W.kitOne K (.type "int") (.type "str") = some false := by kernel_rfl
theorem kit_list {K : PySem.W.Frag} : PySem.W.kitOne K (.type "list") (.type "str") = some false := by kernel_rfl
theorem kit_tup {K : PySem.W.Frag} : PySem.W.kitOne K (.type "tuple") (.type "str") = some false := by kernel_rfl
structure Bk (K : PySem.W.Frag) (a : Addr) : Prop where
  lo : (a == sysModules) = false
  all : ∀ z : Str, ∃ r, PySem.W.nsIn K a z = some r ∧ r.isSome = isLet z
noncomputable def keyT (e : DictEntry) : Str := match e.key with
  | .str x _ => x
  | _ => ""
noncomputable def letters : List Str := ([0, 1, 2, 3, 4, 5, 6, 7, 8, 9, 10, 11] : List L).map fun x => toS [x]
theorem mem12 : ∀ x : L, x ∈ ([0, 1, 2, 3, 4, 5, 6, 7, 8, 9, 10, 11] : List L) := by decide
theorem isLet_of (z : Str) : isLet z = letters.any (fun y => y == z) := by
  have key : ∀ c : Nat, (ltr c).isSome = letters.any (fun y => y == (⟨#[c]⟩ : Str)) := by
    intro c
    rw [Bool.eq_iff_iff]
    constructor
    · intro h
      obtain ⟨x, hx⟩ := Option.isSome_iff_exists.mp h
      have e := ltr_some hx
      rw [List.any_eq_true]
      refine ⟨toS [x], List.mem_map.mpr ⟨x, mem12 x, rfl⟩, ?_⟩
      rw [← e]
      exact beq_iff_eq.mpr rfl
    · intro h
      obtain ⟨y, hy, e⟩ := List.any_eq_true.mp h
      obtain ⟨x, _, rfl⟩ := List.mem_map.mp hy
      have e := beq_iff_eq.mp e
      have e2 : [cp x] = [c] := congrArg (fun s : Str => s.cps.toList) e
      have e3 : cp x = c := by simpa using e2
      rw [← e3, ltr_cp]
      rfl
  obtain ⟨⟨l⟩⟩ := z
  match l with
  | [c] => exact key c
  | [] =>
    symm
    show _ = false
    rw [List.any_eq_false]
    intro y hy e
    obtain ⟨x, _, rfl⟩ := List.mem_map.mp hy
    have e := congrArg (fun s : Str => s.cps.toList.length) (beq_iff_eq.mp e)
    cases e
  | a :: b :: r =>
    symm
    show _ = false
    rw [List.any_eq_false]
    intro y hy e
    obtain ⟨x, _, rfl⟩ := List.mem_map.mp hy
    have e := congrArg (fun s : Str => s.cps.toList.length) (beq_iff_eq.mp e)
    cases e
theorem bk_mk {K : PySem.W.Frag} {w : World} {a : Addr} {es : Array DictEntry} {n : Nat} (lo : (a == sysModules) = false) (hl : K.lookup a = some ⟨.type "dict", none, .dict es n, #[]⟩) (hk : PySem.W.KeysLit w.params es.toList) (hn : es.toList.map keyT = letters) : Bk K a := by
  refine ⟨lo, fun z => ?_⟩
  have hs : ∀ e ∈ es.toList, e.key.isStr z = (keyT e == z) ∧ e.refKey = false := by
    intro e he
    obtain ⟨x, t, e1, _⟩ := hk.all e he
    unfold keyT DictEntry.refKey
    rw [e1]
    exact ⟨rfl, rfl⟩
  have ha : es.toList.any (fun e => e.key.isStr z) = isLet z := by
    rw [isLet_of, ← hn, List.any_map]
    rw [Bool.eq_iff_iff, List.any_eq_true, List.any_eq_true]
    constructor
    · rintro ⟨e, he, q⟩
      exact ⟨e, he, by rw [(hs e he).1] at q; exact q⟩
    · rintro ⟨e, he, q⟩
      exact ⟨e, he, by rw [(hs e he).1]; exact q⟩
  have hr : es.toList.any (fun e => e.refKey) = false := by
    rw [List.any_eq_false]
    intro e he
    rw [(hs e he).2]
    decide
  unfold PySem.W.nsIn
  rw [hl]
  dsimp only
  cases hf : es.toList.find? (fun e => e.key.isStr z) with
  | some e =>
    refine ⟨some e.val, rfl, ?_⟩
    rw [← ha]
    symm
    exact List.any_eq_true.mpr ⟨e, List.mem_of_find?_eq_some hf, by have := List.find?_some hf; exact this⟩
  | none =>
    refine ⟨none, ?_, ?_⟩
    · dsimp only
      rw [hr]
      rfl
    · rw [← ha]
      symm
      show _ = false
      rw [List.any_eq_false]
      intro e he q
      exact List.find?_eq_none.mp hf e he q
end L2
namespace Kx
open PySem PySem.Spec PyProof.Rows L2 Wd
inductive spLetter (K : PySem.W.Frag) (vs : List V) (H : Hp) (Q : VK) (u3_ : XK) : Prop
  | mk : ∀ x, (vs = [x]) → (Th K H x) → (Q (.bl (letV x)) H) → spLetter K vs H Q u3_
inductive spNum (vs : List V) (H : Hp) (Q : VK) (u3_ : XK) : Prop
  | mk : ∀ (x : L), (vs = [tx [x]]) → (Q (.int ((x.val % 6 : Nat) : Int)) H) → spNum vs H Q u3_
inductive spIsW (K : PySem.W.Frag) (vs : List V) (H : Hp) (Q : VK) (u3_ : XK) : Prop
  | mk : ∀ (m : Int) (x : V), (vs = [.int m, x]) → (1 ≤ m) → (m ≤ 6) → (Th K H x) → (∀ H', Same H H' → Q (.bl (wdV m x)) H') → spIsW K vs H Q u3_
theorem num_at : ∀ x : L, Builtin.Str.occurrences ("abcdef" : Str) (Txt.lower (toS [x])) 0 ("abcdef" : Str).length 1 = [x.val % 6] := by
  have q : ∀ x : L, Builtin.Str.occurrences ("abcdef" : Str) (⟨(([x].map cp).map lo1).toArray⟩ : Str) 0 ("abcdef" : Str).length 1 = [x.val % 6] := by decide +kernel
  intro x
  rw [lower_toS]
  exact q x
theorem one_ok (m : Int) (x : L) : okC m (cp x) = decide (((x.val % 6 : Nat) : Int) < m) := by unfold okC; rw [ltr_cp]
theorem isLet_ltr {c : Nat} (h : (ltr c).isSome = true) : ∃ x : L, (⟨#[c]⟩ : Str) = toS [x] ∧ c = cp x := by
  obtain ⟨x, hx⟩ := Option.isSome_iff_exists.mp h
  exact ⟨x, by rw [← ltr_some hx]; rfl, (ltr_some hx).symm⟩
theorem not_ok {m : Int} {c : Nat} (h : (ltr c).isSome = false) : okC m c = false := by
  unfold okC
  cases e : ltr c with
  | none => rfl
  | some x => rw [e] at h; cases h
theorem in_sg {m : Int} (h1 : 1 ≤ m) (h2 : m ≤ 6) (c : Nat) : inV (.str ⟨#[c]⟩) (L2.signs (toS (sg m))) = okC m c := by
  have e : L2.signs (toS (sg m)) = (sg m).map fun x => V.str (toS [x]) := by
    unfold L2.signs
    rw [toS_cps, List.map_map]
    rfl
  rw [e]
  unfold inV
  rw [List.any_map]
  have s : ((fun y => eqV y (.str ⟨#[c]⟩)) ∘ fun x => V.str (toS [x])) = fun x : L => decide (cp x = c) := by
    funext x
    show ((toS [x]) == (⟨#[c]⟩ : Str)) = _
    rw [Bool.eq_iff_iff, beq_iff_eq, decide_eq_true_iff]
    constructor
    · intro q
      have q : [cp x] = [c] := congrArg (fun s : Str => s.cps.toList) q
      simpa using q
    · rintro rfl
      rfl
  rw [s]
  have hm : m = 1 ∨ m = 2 ∨ m = 3 ∨ m = 4 ∨ m = 5 ∨ m = 6 := by omega
  cases hc : ltr c with
  | some x =>
    have ex := ltr_some hc
    subst ex
    rw [one_ok]
    rcases hm with rfl | rfl | rfl | rfl | rfl | rfl <;> (clear s hc; revert x; decide)
  | none =>
    rw [not_ok (by rw [hc]; rfl), List.any_eq_false]
    intro x _ q
    have q : cp x = c := of_decide_eq_true q
    rw [← q, ltr_cp] at hc
    cases hc
theorem flat_signs (z : Str) : (L2.signs z).all flatV = true := by
  rw [List.all_eq_true]
  intro v hv
  obtain ⟨c, _, rfl⟩ := List.mem_map.mp hv
  rfl
theorem fil_isW (m : Int) (z : Str) : ((z.cps.toList.filter fun c => !okC m c).map fun c => V.str ⟨#[c]⟩).isEmpty = isW m z := by
  rw [Bool.eq_iff_iff, List.isEmpty_iff, List.map_eq_nil_iff, List.filter_eq_nil_iff]
  unfold isW
  rw [List.all_eq_true]
  simp
theorem okC6 (c : Nat) : okC 6 c = (ltr c).isSome := by
  unfold okC
  cases ltr c with
  | none => rfl
  | some x => exact decide_eq_true (by have := Nat.mod_lt x.val (show 0 < 6 by decide); omega)
end Kx
set_option Elab.async false
set_option linter.all false
set_option maxRecDepth 100000
set_option maxHeartbeats 0
namespace L2
open PySem PySem.Spec PyProof.Rows Wd
section
variable {X : Cx}
inductive rNeNil (x : V) (y : V) (H : Hp) (Q : VK) : Prop
  | mk : ∀ a b xs, (x = .ref a) → (y = .ref b) → (H a = some (.lst xs)) → (H b = some (.lst [])) → (Q (.bl (!xs.isEmpty)) H) → rNeNil x y H Q
theorem op_ne_nil (hu : X.A.units + 64 < cLine) : OpR X (compareOp .NotEq) rNeNil := by
  intro pins s σ H x y v u Q I rx ry h
  obtain ⟨a, b, xs, rfl, rfl, ha, hb, q⟩ := h
  cases rx
  cases ry
  obtain ⟨its, n, rv, ea, _⟩ := I.lst ha
  obtain ⟨its2, n2, rv2, eb, _⟩ := I.lst hb
  cases rv2
  have hla : s.heap.IsList a its.toArray := ⟨_, ea, rfl, _, rfl⟩
  have hlb : s.heap.IsList b ([] : List Value).toArray := ⟨_, eb, rfl, _, rfl⟩
  cases xs with
  | nil =>
    cases rv
    refine EqBoolInt.of_rcne (SeqAt.RcNeAt.lists (e := fun _ => true) hla hlb rfl (by omega) (fun j hj => by simp at hj)) ?_
    exact ⟨.bl false, H, I, rfl, q⟩
  | cons z r =>
    cases rv with
    | cons r1 r2 =>
      refine EqBoolInt.of_rcne (SeqAt.RcNeAt.lists_lengths hla hlb (by simp) (by omega)) ?_
      exact ⟨.bl true, H, I, rfl, q⟩
end
theorem kit_tupT {K : PySem.W.Frag} : PySem.W.kitOne K (.type "tuple") (.type "tuple") = some true := by unfold PySem.W.kitOne; rw [if_pos (by rfl)]
theorem kitT_non {K : PySem.W.Frag} : PySem.W.kitOne K (.type "NoneType") (.type "tuple") = some false := by kernel_rfl
theorem kitT_bool {K : PySem.W.Frag} : PySem.W.kitOne K (.type "bool") (.type "tuple") = some false := by kernel_rfl
theorem kitT_int {K : PySem.W.Frag} : PySem.W.kitOne K (.type "int") (.type "tuple") = some false := by kernel_rfl
theorem kitT_list {K : PySem.W.Frag} : PySem.W.kitOne K (.type "list") (.type "tuple") = some false := by kernel_rfl
theorem kitT_str {K : PySem.W.Frag} : PySem.W.kitOne K (.type "str") (.type "tuple") = some false := by kernel_rfl
theorem at_mem {xs : List V} {q : Int} (h0 : 0 ≤ q) (h1 : q < xs.length) : ∃ y, atI xs q = some y ∧ y ∈ xs := by
  obtain ⟨k, rfl⟩ := Int.eq_ofNat_of_zero_le h0
  have hk : k < xs.length := by omega
  refine ⟨xs[k], ?_, List.getElem_mem hk⟩
  unfold atI ixN
  rw [if_pos (by omega), if_pos (by omega)]
  show xs[((k : Nat) : Int).toNat]? = _
  rw [Int.toNat_natCast, List.getElem?_eq_getElem hk]
theorem cutV_mem {xs : List V} {lo hi : Option Int} {y : V} (h : y ∈ cutV xs lo hi) : y ∈ xs := List.mem_of_mem_drop (List.mem_of_mem_take h)
end L2
namespace Kx
open PySem PySem.Spec PyProof.Rows L2 Wd
noncomputable def ofS (z : Str) : Option (List L) := z.cps.toList.mapM ltr
theorem mapM_ltr : ∀ {l : List Nat} {u : List L}, l.mapM ltr = some u → l = u.map cp
  | [], u, h => by simp at h; subst h; rfl
  | c :: r, u, h => by
    rw [List.mapM_cons] at h
    cases hc : ltr c with
    | none => rw [hc] at h; cases h
    | some x =>
      cases hr : r.mapM ltr with
      | none => rw [hc, hr] at h; cases h
      | some v =>
        rw [hc, hr] at h
        cases h
        rw [List.map_cons, ← ltr_some hc, ← mapM_ltr hr]
theorem mapM_cp : ∀ u : List L, (u.map cp).mapM ltr = some u
  | [] => rfl
  | x :: r => by rw [List.map_cons, List.mapM_cons, ltr_cp, mapM_cp r]; rfl
theorem ofS_some {z : Str} {u : List L} (h : ofS z = some u) : z = toS u := by
  have e := mapM_ltr h
  unfold toS
  rw [← e]
theorem ofS_toS (u : List L) : ofS (toS u) = some u := by unfold ofS; rw [toS_cps]; exact mapM_cp u
theorem all_mapM : ∀ l : List Nat, l.all (okC 6) = (l.mapM ltr).isSome
  | [] => rfl
  | c :: r => by
    rw [List.all_cons, List.mapM_cons, okC6, all_mapM r]
    cases ltr c <;> cases r.mapM ltr <;> rfl
theorem isW6 (z : Str) : isW 6 z = (ofS z).isSome := all_mapM _
theorem s12 : toS [0, 1, 2, 3, 4, 5, 6, 7, 8, 9, 10, 11] = ("abcdefABCDEF" : Str) := by decide +kernel
end Kx
namespace L2
open PySem PySem.Spec PyProof.Rows Wd
theorem comp_list {K : PySem.W.Frag} {a : Addr} {xs : List V} {own : List Str} {cap : List Nat} {g : TG} {ti : TT} {te : TE} {σ : St} {H : Hp} {Q : VK} (Pv : Nat → List V → St → Hp → Prop) (h0 : Pv 0 [] (stB own cap σ) H) (hz : ∀ i ys σ H, i ≤ xs.length → Pv i ys σ H → ys.length ≤ i) (hn : xs.length ≤ sizeLine)
    (hl : ∀ i ys σ H, Pv i ys σ H → SqL K H a xs)
    (hs : ∀ i ys σ H x (N : List V → St → Hp → Prop), xs[i]? = some x → Pv i ys σ H → (∀ ys' σ' H'', Pv (i + 1) ys' σ' H'' → N ys' σ' H'') → g x σ H fun σ2 H2 => ti σ2 H2 fun b H3 => if b = true then te σ2 H3 fun y H4 => N (ys ++ [y]) σ2 H4 else N ys σ2 H3)
    (hd : ∀ ys σ H D, Pv xs.length ys σ H → H D = none → Q (.ref D) (upd H D (.lst ys))) :
    CompW own cap g ti te Q σ (Itl K a) H := by
  refine comp_by (J := Itl K a) xs.length Pv h0 hz hn (fun i ys σ H hi p => ⟨xs, xs[i], hl i ys σ H p, List.getElem?_eq_getElem hi⟩) (fun ys σ H p => ⟨xs, hl _ ys σ H p, Nat.le_refl _⟩) ?_ hd
  rintro i ys σ H x H' N hi p ⟨rfl, hx⟩ hN
  exact hs i ys σ _ x N (hx xs (hl i ys σ _ p)) p hN
end L2
namespace L2
open PySem PySem.Spec PyProof.Rows Wd
theorem pt_bl {X : Cx} {a : Expr} {ta : TE} (ha : PE X a ta) (he : ∀ whole, isTrue a X.env whole = (do let v ← whole; standAt a.pos; holding [v] (truthy v))) : PT X a (tTest ta) := by
  intro pins s σ H Q I h
  refine isTrue_plain (thn (ha pins s σ H _ I h) fun v s1 ⟨x, H1, I1, r1, q1⟩ => tru_ok pins s1 σ H1 x v Q I1 r1 ?_) (he _)
  obtain ⟨k, e, q⟩ := q1
  subst e
  exact ⟨k, rfl, q⟩
end L2
namespace L2
open PySem PySem.Spec PyProof.Rows Wd
theorem while_to {c : TT} {tb : TS} {D : Ends} {σ : St} {H : Hp} (W : Nat → St → Hp → Prop) (E : St → Hp → Prop) (h0 : ∃ m, W m σ H)
    (turn : ∀ nx : St → Hp → Prop, (∀ σ H, E σ H → nx σ H) → ∀ m σ H, W m σ H → c σ H fun b H1 => if b = true then ∃ N : St → Hp → Prop, (∀ σ' H', N σ' H' → ∃ m', m' < m ∧ W m' σ' H') ∧ tb { D with nx := N, ct := N, bk := nx } σ H1 else nx σ H1)
    (he : ∀ σ H, E σ H → D.nx σ H) : tWhile c tb D σ H := ⟨W, h0, turn D.nx he⟩
theorem two_ends {u : List L} (h : 1 < u.length) : ∃ x mid z, u = x :: (mid ++ [z]) := by
  match u, h with
  | x :: y :: r, _ =>
    refine ⟨x, (y :: r).dropLast, (y :: r).getLast (by simp), ?_⟩
    rw [List.dropLast_concat_getLast]
end L2
namespace L2
open PySem PySem.Spec PyProof.Rows Wd
theorem Fd.neT {H : Hp} {d a : Addr} {xs : List V} (F : Fd H d) (h : H a = some (.tup xs)) : a ≠ d := by
  obtain ⟨c, i, l, t, ns, h1, h2, h3, h4⟩ := F.ex
  exact ne_of h h1 (by intro z; cases z)
end L2
namespace L2
open PySem PySem.Spec PyProof.Rows Wd
end L2
set_option Elab.async false
set_option linter.all false
set_option maxRecDepth 100000
namespace L2
open PySem PySem.Spec PyProof.Rows
theorem ps_setC {X : Cx} {i : Nat} {y : Str} {py spos : Pos} {elt iter tg : Expr} {ifs : List Expr} {scope : Scope} {pos : Pos} {NB own : List Str} {cap : List Nat} {wi : TI} {g : TG} {ti : TT} {te : TE} (hN : X.N.Nodup) (hi0 : X.N[i]? = some y) (hx : Loc X.env.scope y) (B : Blk X scope NB own cap) (hc : X.calm = true) (hi : PI X tg iter wi)
    (hg : ∀ C fp s₀ H₀, PG (cxB X NB own scope C fp s₀ H₀) tg g) (ht : ∀ C fp s₀ H₀, PIf (cxB X NB own scope C fp s₀ H₀) ifs ti) (he : ∀ C fp s₀ H₀, PE (cxB X NB own scope C fp s₀ H₀) elt te)
    (hs : ∀ x, foldedSetIterable iter X.env x = pure x := by intro _; rfl) (hsw : swapsWith (.ListComp elt [⟨tg, iter, ifs, 0⟩] scope pos) (some (.Name y py)) spos.line X.env = pure true := by rfl) (hf : X.fn y = true ∨ X.env.scope.names.lookup y = some .local := by first | exact .inl rfl | exact .inr rfl | assumption) : PS X (.Assign [.Name y py] (.ListComp elt [⟨tg, iter, ifs, 0⟩] scope pos) spos) (tAsg (tComp own cap wi g ti te) (gName i)) := by
  intro pins s σ H DD I0 h
  rw [exec_Assign_Name_used _ _ _ _ hsw]
  refine wpAny_bind (wpAny_standAt (wpAny_bind ?_))
  show wpAny _ X.A (do let _ ← comprehension (.ListComp elt [⟨tg, iter, ifs, 0⟩] scope pos) scope X.env _ (newList []) false (eval iter X.env) (some (assign (.Name y py) X.env))) _ _ s
  have hclos := closureFor_is (env := X.env) (scope := scope) fun y hy e => I0.ok.has y.1 (.inl (B.free y hy e))
  refine wpAny_bind (wpAny_mono (wpAny_comprehension_free (use := some (assign (.Name y py) X.env)) (Q := fun _ s' => SP X pins DD .next s') rfl hs hclos B.kind B.names (thn (hi pins s σ H _ I0 h) fun v s1 h1 => thn h1 fun itv s2 h2 => ?_)) (fun _ s' hq => wpAny_pure (wpAny_pure hq)) fun _ _ e => e)
  obtain ⟨it, fp, tn, J, H2, rfl, I, T, st2, f2, W, ⟨m0, w0⟩, turn⟩ := h2
  refine wpAny_newList ?_
  refine wpAny_newFunctionEnv B.nocell (by intro y hy; simp at hy) (fun h₁ hns₁ hsb₁ => ?_) B.kind
  dsimp only at hns₁ hsb₁ ⊢
  generalize hP : s2.heap.push { cls := .type "list", dict := none, data := .seq ([] : List Value).toArray } = P at hns₁ hsb₁ ⊢
  have hC : P.objs.size = s2.heap.objs.size + 1 := by rw [← hP, Heap.size_push]
  have hDC : s2.heap.objs.size ≠ P.objs.size := by rw [hC]; exact Nat.ne_of_lt (Nat.lt_succ_self _)
  have hCle : s2.heap.objs.size ≤ P.objs.size := by rw [hC]; exact Nat.le_succ _
  have old : ∀ b o, s2.heap.get? b = some o → h₁.get? b = some o := fun b o e => by
    refine (hsb₁.2 b ?_).trans (Heap.get?_push_of_some _ (hP ▸ Heap.get?_push_of_some _ e))
    exact Nat.ne_of_lt (Nat.lt_of_lt_of_le (Heap.lt_size e) hCle)
  have hD : h₁.get? s2.heap.objs.size = some { cls := .type "list", data := .seq ([] : List Value).toArray 0 } := by
    refine (hsb₁.2 _ hDC).trans (Heap.get?_push_of_some _ ?_)
    rw [← hP]
    exact Heap.get?_push_size _ rfl
  have hfs : ∀ b ∈ fp, ∃ o, s2.heap.get? b = some o := fun b hb => let ⟨o, e, _⟩ := T.obj _ _ st2 b hb; ⟨o, e⟩
  have st4 : tn 0 h₁ := T.keep _ _ _ st2 fun b _ o e => old b o e
  generalize htk : s2.toks + ([] : List (Str × Value)).length = tk4
  have I4 := B.start (C := P.objs.size) (tk := tk4) I f2 hfs hCle old hns₁
  have fOk : ∀ {H' : Hp} {b : Addr} {ob : Obj}, b ∈ fp → H' b = none → FpOk (cxB X NB own scope P.objs.size fp s2 H2) [(s2.heap.objs.size, ob)] H' b := fun {H' b ob} hb hn => by
    obtain ⟨o, e⟩ := hfs b hb
    refine ⟨hn, (I4.ok.exf b hb).1, I4.ok.exfs b hb, .inl hb, (I4.ok.exf b hb).2, fun p hp => ?_⟩
    have ep : p = (s2.heap.objs.size, ob) := List.mem_singleton.mp (show p ∈ [(s2.heap.objs.size, ob)] from hp)
    rw [ep]
    exact fun z => absurd (Heap.lt_size e) (by rw [← z]; exact Nat.lt_irrefl _)
  have dnf : s2.heap.objs.size ∉ frs X.stack := fun z => by
    rcases List.mem_cons.mp (I.stkSub _ z) with z | z
    · exact absurd I.lt (by rw [← z]; exact Nat.lt_irrefl _)
    · exact I.nofs (Nat.le_refl _) z
  have I3D : ∀ {σ3 : St} {H3 : Hp} {s3 : Shared} {its : List Value} {k : Nat}, Inv (cxB X NB own scope P.objs.size fp s2 H2) [] σ3 H3 s3 → s3.heap.get? s2.heap.objs.size = some { cls := .type "list", data := .seq its.toArray k } → H3 s2.heap.objs.size = none →
      Inv (cxB X NB own scope P.objs.size fp s2 H2) [(s2.heap.objs.size, { cls := .type "list", data := .seq its.toArray k })] σ3 H3 s3 := fun I3 e n => I3.pins_of fun p hp => by
    have ep := List.mem_singleton.mp hp
    subst ep
    exact ⟨e, n, hDC, dnf, fun v z => by cases z⟩
  have ndf : s2.heap.objs.size ∉ fp := fun z => by
    obtain ⟨o, e⟩ := hfs _ z
    exact absurd (Heap.lt_size e) (Nat.lt_irrefl _)
  have nCD : ∀ x c, (cxB X NB own scope P.objs.size fp s2 H2).env.cells.lookup x = some c → c ≠ s2.heap.objs.size := fun x c e z => by
    obtain ⟨v, o, ho, _⟩ := I.cell x c (B.cells I.ok e).1
    rw [z] at ho
    exact absurd (Heap.lt_size ho) (Nat.lt_irrefl _)
  have loop : ∀ s₃ : Shared, s₃ = { s2 with heap := h₁, toks := tk4 } → codeAny (model X.prog X.w) X.A (.compLoop (.ListComp elt [⟨tg, iter, ifs, 0⟩] scope pos) 0 (.ref it) (.ref s2.heap.objs.size) (cxB X NB own scope P.objs.size fp s2 H2).env)
      (compPost (model X.prog X.w) X.A X.xe (some (assign (.Name y py) X.env)) (fun _ s' => SP X pins DD .next s') (.ref s2.heap.objs.size) P.objs.size) s₃ := by
    rintro s₃ rfl
    refine comp_loop (fun n s' => ∃ i σB H' ys its k, Inv (cxB X NB own scope P.objs.size fp s2 H2) [] σB H' s' ∧ tn i s'.heap ∧ (∀ b ∈ fp, H' b = none) ∧ s'.heap.get? s2.heap.objs.size = some { cls := .type "list", data := .seq (its : List Value).toArray k } ∧ Vals ys its ∧ H' s2.heap.objs.size = none ∧ W i n ys σB H') ?_ m0
      ⟨0, stB own cap σ, H2, [], [], 0, I4, st4, fun b hb => (f2 b hb).1, hD, .nil, I.hok.fresh (Nat.le_refl _), w0⟩
    rintro n s3 ⟨i, σ3, H3, ys, its, k, I3, st3, fr3, hD3, rv, hn3, w3⟩
    rcases turn i n ys σ3 H3 w3 with ⟨stop, hz, q⟩ | ⟨go, hz, step⟩
    · refine thn (T.done (cxB X NB own scope P.objs.size fp s2 H2) rfl rfl rfl hc i _ s3 σ3 H3 noE (I3D I3 hD3 hn3) (fun b hb => fOk hb (fr3 b hb)) st3 stop) fun r s4 zq1 => ?_
      obtain ⟨hr, I4'⟩ := zq1
      subst hr
      have hD4 : s4.heap.get? s2.heap.objs.size = some { cls := .type "list", data := .seq (its : List Value).toArray k } := (I4'.pin (s2.heap.objs.size, _) (List.mem_append_right _ (List.mem_singleton.mpr rfl))).1
      have I5 : Inv (cxB X NB own scope P.objs.size fp s2 H2) [] σ3 H3 s4 := I4'.pins_of fun p hp => absurd (show p ∈ ([] : List (Addr × Obj)) from hp) (by simp)
      obtain ⟨mC, hnC, _⟩ := I5.loc
      have I6 : Inv X pins σ (upd H3 s2.heap.objs.size (.lst ys)) s4 := B.done (h'' := s4.heap) I f2 hCle (Nat.le_refl _) hDC I5 hn3 hD4 rv hz ⟨rfl, fun _ _ => rfl⟩
      obtain ⟨oC, es, ep, hoC, hdC, rC⟩ := hnC
      have hCn : (upd H3 s2.heap.objs.size (.lst ys)) P.objs.size = none := by rw [upd_ne hDC.symm]; exact I5.free
      have nL : P.objs.size ≠ X.env.locals := fun z => absurd I.lt (by rw [← z]; exact Nat.not_lt.mpr hCle)
      have I7 : Inv X (pins ++ [(P.objs.size, oC)]) σ (upd H3 s2.heap.objs.size (.lst ys)) s4 := I6.pins_of fun p hp => by
        rcases List.mem_append.mp hp with z | z
        · exact I6.pin p (List.mem_append_right _ z)
        · have ep := List.mem_singleton.mp z
          subst ep
          exact ⟨hoC, hCn, nL, I.nofs hCle, fun v z => by rw [hdC] at z; cases z⟩
      refine thn (pg_name (pos := py) hN hi0 hx hf (pins ++ [(P.objs.size, oC)]) s4 σ _ (.ref s2.heap.objs.size) (.ref s2.heap.objs.size) (fun σ' H' => DD.nx σ' H' ∧ H' = upd H3 s2.heap.objs.size (.lst ys)) I7 rfl ⟨q _ hn3, rfl⟩) fun _ s5 zq2 => ?_
      obtain ⟨σ5, H5, I8, q5, e5⟩ := zq2
      subst e5
      have pC := (I8.pin (P.objs.size, oC) (List.mem_append_right _ (List.mem_append_right _ (List.mem_singleton.mpr rfl)))).1
      refine ⟨mC, ⟨oC, es, ep, pC, hdC, rC⟩, fun h'' sb => ⟨σ5, _, ?_, q5⟩⟩
      have I9 : Inv X pins σ5 (upd H3 s2.heap.objs.size (.lst ys)) s5 := I8.pins_of fun p hp => I8.pin p (List.mem_append_right _ (List.mem_append_left _ hp))
      refine I9.turned (t' := s5.toks) (it := P.objs.size) (fun b o hb e => (sb.2 b hb).trans e) hCn nL (.inr (Nat.le_trans I.sz hCle)) (fun x c e z => ?_) fun p hp z => ?_
      · obtain ⟨v, o, ho, _⟩ := I.cell x c e
        exact absurd (Heap.lt_size ho) (by rw [z]; exact Nat.not_lt.mpr hCle)
      · exact absurd (Heap.lt_size (I.pin p hp).1) (by rw [z]; exact Nat.not_lt.mpr hCle)
    · refine thn (T.item (cxB X NB own scope P.objs.size fp s2 H2) rfl rfl rfl hc i _ s3 σ3 H3 noE (I3D I3 hD3 hn3) (fun b hb => fOk hb (fr3 b hb)) st3 go) fun r s4 zq3 => ?_
      obtain ⟨u, hr, h4⟩ := zq3
      subst hr
      refine thn h4 fun _ s5 zq4 => ?_
      obtain ⟨x, H5, I5, r5, y5, st5, fr5⟩ := zq4
      have I5' := I5.pinned (fun b hb => fOk hb (fr5 b hb)) (T.obj _ _ st5)
      refine thn (hg _ fp s2 H2 _ s5 σ3 H5 x u _ I5' r5 (step x H5 y5)) fun _ s6 zq5 => ?_
      obtain ⟨σ6, H6, I6, q6⟩ := zq5
      refine thn (ht _ fp s2 H2 _ s6 σ6 H6 _ I6 q6) fun b s7 zq6 => ?_
      obtain ⟨H7, I7, q7⟩ := zq6
      have pinned : ∀ {σ8 : St} {H8 : Hp} {s8 : Shared}, Inv (cxB X NB own scope P.objs.size fp s2 H2) ([(s2.heap.objs.size, { cls := .type "list", data := .seq (its : List Value).toArray k })] ++ pinsAt fp s5.heap) σ8 H8 s8 →
          tn (i + 1) s8.heap ∧ (∀ b ∈ fp, H8 b = none) ∧ s8.heap.get? s2.heap.objs.size = some { cls := .type "list", data := .seq (its : List Value).toArray k } ∧ H8 s2.heap.objs.size = none := fun {σ8 H8 s8} I8 => by
        refine ⟨T.keep _ _ _ st5 fun b hb o e => (I8.pin (b, o) (List.mem_append_right _ (List.mem_append_right _ (mem_pinsAt hb e)))).1, fun b hb => ?_, ?_, ?_⟩
        · obtain ⟨o, e, d⟩ := T.obj _ _ st5 b hb
          exact (I8.pin (b, o) (List.mem_append_right _ (List.mem_append_right _ (mem_pinsAt hb e)))).2.1
        · exact (I8.pin (s2.heap.objs.size, _) (List.mem_append_right _ (List.mem_append_left _ (List.mem_singleton.mpr rfl)))).1
        · exact (I8.pin (s2.heap.objs.size, _) (List.mem_append_right _ (List.mem_append_left _ (List.mem_singleton.mpr rfl)))).2.1
      have nopin : ∀ {pp : List (Addr × Obj)} {σ8 : St} {H8 : Hp} {s8 : Shared}, Inv (cxB X NB own scope P.objs.size fp s2 H2) pp σ8 H8 s8 → Inv (cxB X NB own scope P.objs.size fp s2 H2) [] σ8 H8 s8 := fun I8 => I8.pins_of fun p hp => absurd (show p ∈ ([] : List (Addr × Obj)) from hp) (by simp)
      cases b with
      | false =>
        rw [if_neg Bool.false_ne_true] at q7 ⊢
        obtain ⟨m', hm, w7⟩ := q7
        obtain ⟨p1, p2, p3, p4⟩ := pinned I7
        exact ⟨m', hm, i + 1, σ6, H7, ys, its, k, nopin I7, p1, p2, p3, rv, p4, w7⟩
      | true =>
        rw [if_pos rfl] at q7 ⊢
        refine thn (he _ fp s2 H2 _ s7 σ6 H7 _ I7 q7) fun yv s8 zq7 => ?_
        obtain ⟨y, H8, I8, r8, m', hm, w8⟩ := zq7
        obtain ⟨p1, p2, p3, p4⟩ := pinned I8
        refine call_meets F.slot_list_append ⟨_, p3, rfl⟩ F.entry_list_append (F.args_list_append_2 _ _) (PySem.list_append s2.heap.objs.size its.toArray k yv (by rw [List.size_toArray, ← rv.length]; omega)) ⟨p3, ?_⟩
        have q := PySem.IsL.update p3 fun a => a.push yv
        have ea : its.toArray.push yv = (its ++ [yv]).toArray := by simp
        rw [ea] at q
        have I9 : Inv (cxB X NB own scope P.objs.size fp s2 H2) [] σ6 H8 { s8 with heap := s8.heap.update s2.heap.objs.size (Obj.mapSeq fun a => a.push yv), toks := s8.toks } :=
          (nopin I8).turned (it := s2.heap.objs.size) (fun b o hb e => (Heap.get?_update_other s8.heap _ (Ne.symm hb)).trans e) p4 hDC (.inr (Nat.le_refl _)) (fun x c e => nCD x c e) fun p hp => absurd (show p ∈ ([] : List (Addr × Obj)) from hp) (by simp)
        refine ⟨m', hm, i + 1, σ6, H8, ys ++ [y], its ++ [yv], _, I9, ?_, p2, q, rv.append (.cons r8 .nil), p4, w8⟩
        refine T.keep _ _ _ p1 fun b hb o e => (Heap.get?_update_other s8.heap _ ?_).trans e
        intro z
        rw [z] at ndf
        exact ndf hb
  exact codeAny_compStart_list (loop _ rfl) (T.self X.A 0 _ _ _ st4 (loop _ rfl))

end L2
namespace L2
open PySem PySem.Spec PyProof.Rows Wd
end L2
set_option Elab.async false
set_option linter.all false
set_option maxRecDepth 100000
namespace L2
open PySem PySem.Spec PyProof.Rows Wd
section
variable {X : Cx}
noncomputable def revS (z : Str) : Str := Txt.sliceBy z none none (-1, 0)
noncomputable def tRevS (te ts : TE) : TE := fun σ H Q => te σ H fun x H1 => ts σ H1 fun k H2 => ∃ z, x = .str z ∧ k = .int (-1) ∧ z.length ≤ sizeLine ∧ Q (.str (revS z)) H2
theorem pe_revS {e st : Expr} {te ts : TE} {pos p2 : Pos} (he : PE X e te) (hs : PE X st ts) : PE X (.Subscript e (.Slice none none (some st) p2) pos) (tRevS te ts) := by
  intro pins s σ H Q I h
  refine Subscript_ (thn (he pins s σ H _ I h) fun v s1 zq1 => ?_)
  obtain ⟨x, H1, I1, r1, q1⟩ := zq1
  refine wpAny_Slice ?_
  rw [evalPart_none]
  refine wpAny_pure ?_
  refine wpAny_pure ?_
  rw [evalPart_some]
  refine thn (hs pins s1 σ H1 _ I1 q1) fun vs s3 zq2 => ?_
  obtain ⟨k, H3, I3, r3, z, ez, ek, hz, q3⟩ := zq2
  subst ez ek
  obtain ⟨t, rfl⟩ := r1
  obtain ⟨tk, rfl⟩ := r3
  have I4 : Inv X pins σ H3 { s3 with heap := s3.heap.push { cls := .type "slice", data := .fields #[.none, .none, .int (-1) tk] } } := I3.kept (t' := s3.toks) fun b ob q => Heap.get?_push_of_some _ q
  show wpAny (model X.prog X.w) X.A (subscriptTail e (.Slice none none (some st) p2) (.str z t) (.ref s3.heap.objs.size)) (EP X pins σ Q) X.xe { s3 with heap := s3.heap.push { cls := .type "slice", data := .fields #[.none, .none, .int (-1) tk] } }
  refine tail_any (ops := [.ref s3.heap.objs.size, .str z t]) (typeIs_str _ _ _) F.slot_str_getitem.lookup ?_ (by with_unfolding_all rfl)
  exact wpAny_getItem_str_slice (l := none) (u := none) (st := some (-1, tk)) ⟨_, Heap.get?_push_size _ rfl, rfl, rfl⟩ rfl (post_val_or_str ⟨Nat.le_trans (Txt.sliceBy_le z none none (-1, tk) (by show (-1 : Int) ≠ 0; decide)) hz, fun t' k => ⟨.str _, H3, I4.tok _, ⟨_, rfl⟩, q3⟩⟩)
end
end L2
set_option Elab.async false
set_option linter.all false
set_option maxRecDepth 100000
namespace L2
open PySem PySem.Spec PyProof.Rows
section
variable {X : Cx}
end
end L2
set_option Elab.async false
set_option linter.all false
set_option maxRecDepth 100000
namespace L2
open PySem PySem.Spec PyProof.Rows
section
variable {prog : Program} {w : World} {A : Around} {E : Value → Shared → Prop} {s : Shared}
end
section
variable {X : Cx}
end
end L2
namespace L2
open PySem PySem.Spec PyProof.Rows
section
variable {X : Cx}
end
end L2
namespace L2
open PySem PySem.Spec PyProof.Rows
section
variable {X : Cx}
end
end L2
set_option Elab.async false
set_option linter.all false
set_option maxRecDepth 100000
namespace PySem
open Sem (wp)
open AutoSeq1 (wpAny_loadPart')
section
variable {prog : Program} {w : World} {A : Around} {E : Value → Shared → Prop} {s : Shared}
end
end PySem
namespace L2
open PySem PySem.Spec PyProof.Rows Wd
section
variable {X : Cx}
end
end L2
set_option Elab.async false
set_option linter.all false
set_option maxRecDepth 100000
namespace PySem
open Sem (wp)
section
variable {prog : Program} {w : World} {A : Around} {E : Value → Shared → Prop} {s : Shared} {z TI TO i1 i2 : Addr} {k n1 n2 : Nat} {a b : Value} {fp1 fp2 : List Addr} {P1 P2 : Nat → Value → Prop} {S1 S2 : Nat → Heap → Prop}
end
end PySem
set_option Elab.async false
set_option linter.all false
set_option maxRecDepth 100000
namespace PySem
end PySem
namespace L2
open PySem PySem.Spec PyProof.Rows Wd
section
variable {X : Cx}
end
end L2
set_option Elab.async false
set_option linter.all false
set_option maxRecDepth 100000
namespace L2
open PySem PySem.Spec PyProof.Rows Wd
section
variable {X : Cx}
theorem call_strV : CallR X (.type "str") (fun xs H Q => (∃ i, xs = [.int i] ∧ i.natAbs.log2 < 1920 ∧ Q (.str (toString i)) H) ∨ ∃ z, xs = [.str z] ∧ Q (.str z) H) := by
  intro pins s σ H xs us Q I r h
  rcases h with ⟨i, rfl, hz, q⟩ | ⟨z, rfl, q⟩
  · exact call_str_int pins s σ H _ us Q I r ⟨i, rfl, hz, q⟩
  · obtain ⟨u, rfl, t, rfl⟩ := vals1 r
    exact PySem.P.str_of_str ⟨.str z, H, I, ⟨_, rfl⟩, q⟩
end
end L2
set_option Elab.async false
set_option linter.all false
set_option maxRecDepth 100000
set_option maxHeartbeats 0
namespace Kx
open PySem PySem.Spec PyProof.Rows L2 Wd
noncomputable def jn (yl : List Nat) : List (List Nat) → List Nat
  | [] => []
  | [p] => p
  | p :: q :: r => p ++ yl ++ jn yl (q :: r)
inductive Stp where
  | out (n : Nat)
  | inn (n : Nat) (x : L)
  | rng (n : Nat) (u : List L) (m : Nat)
noncomputable def Stp.hd : Stp → Str
  | .out _ => "out"
  | .inn _ _ => "in"
  | .rng _ _ _ => "ring"
noncomputable def Stp.args : Stp → List V
  | .out n => [.int n]
  | .inn n x => [.int n, tx [x]]
  | .rng n u m => [.int n, tx u, .int m]
noncomputable def Stp.vs (s : Stp) : List V := .str s.hd :: s.args
noncomputable def strV : V → Str
  | .int i => Str.ofString (toString i)
  | .str z => z
  | _ => ""
noncomputable def Stp.ws (s : Stp) : List Str := s.vs.map strV
noncomputable def Stp.text (s : Stp) : Str := Txt.join " " s.ws
noncomputable def textOf : List Stp → Str
  | [] => "-"
  | s :: r => Txt.join "; " ((s :: r).map Stp.text)
noncomputable def Gd (c : Nat) : Prop := (48 ≤ c ∧ c ≤ 57) ∨ 65 ≤ c
end Kx
namespace L2
open PySem PySem.Spec PyProof.Rows Wd
section
variable {X : Cx} {tg : Expr}
end
end L2
namespace Kx
open PySem PySem.Spec PyProof.Rows L2 Wd
noncomputable def dV : V → PyData
  | .int i => .int i
  | .str z => .str z
  | _ => .none
end Kx
set_option Elab.async false
set_option linter.all false
set_option maxRecDepth 100000
set_option maxHeartbeats 0
namespace Wd
noncomputable def letH (u : List L) (g : Nat) : L := u.getD ((g + 1) % u.length) 0
noncomputable def stepH (u : List L) (g : Nat) : Nat := u.idxOf (inv (letH u g))
end Wd
namespace Kx
open PySem PySem.Spec PyProof.Rows L2 Wd
end Kx
set_option Elab.async false
set_option linter.all false
set_option maxRecDepth 100000
set_option maxHeartbeats 0
namespace Wd
noncomputable def lt6 (j : Nat) : L := if h : j < 12 then ⟨j, h⟩ else 0
end Wd
set_option Elab.async false
set_option linter.all false
set_option maxRecDepth 100000
set_option maxHeartbeats 0
namespace L2
open PySem PySem.Spec PyProof.Rows
section
variable {X : Cx}
end
end L2
namespace Kx
open PySem PySem.Spec PyProof.Rows L2 Wd
noncomputable def ends (k : Nat) : List L := (List.range k).map lt6 ++ bk ((List.range k).map lt6)
end Kx
set_option Elab.async false
set_option linter.all false
set_option maxRecDepth 100000
namespace Wd
open PySem L2
noncomputable def trn (R : List (List L)) : List (List L) := R.flatMap fun r => rots r ++ rots (bk r)
end Wd
set_option Elab.async false
set_option linter.all false
set_option maxRecDepth 100000
namespace HT
open PySem PySem.Spec PyProof.Rows
section
variable {prog : Program} {w : World} {A : Around} {E : Value → Shared → Prop} {s : Shared}
theorem cut_whole {t sl : Addr} {its : Array Value} {vl vu : Value} {lo hi : Option Int} {Q : Value → Shared → Prop} (ht : IsTup s.heap t its) (hs : s.heap.IsSliceOf sl vl vu .none) (pl : IsPart vl lo) (pu : IsPart vu hi)
    (hw : sIx its.size 0 lo = 0 ∧ sIx its.size its.size hi = its.size) (h : Q (.ref t) s) : wpAny (model prog w) A (getItem (.ref t) (.ref sl)) Q E s := by
  obtain ⟨os, hos, hcs, hds⟩ := id hs
  have hTs : s.TypeIs (.ref sl) "slice" := ⟨os, hos, hcs⟩
  unfold getItem
  try with_reducible refine wpAny_holding ?_
  first | refine wpAny_bind (wpAny_pure ?_) | skip
  refine wpAny_bind (wpAny_sequenceKey ht.typeIs (by decide) ?_)
  refine wpAny_bind (wpAny_callSpecial?_slot (name := Str.ofString "__getitem__") ht.typeIs PyProof.Rows.slot_tuple_getitem (wpAny_call_entry PyProof.Rows.slot_tuple_getitem ht.typeIs entry_tuple_getitem ?_ (args_tuple_getitem _ _)))
  show wpAny _ _ (Builtin.Tuple.tupleItemsOf (.ref t) >>= _) _ _ s
  refine wpAny_bind (tupleItemsOf_ ht (wpAny_bind (wpAny_typeOf hTs ?_)))
  rw [if_pos (by decide)]
  refine wpAny_bind (sliceApplied_gen hs pl pu ?_)
  show wpAny _ _ (if (((sIx its.size 0 lo : Nat) : Int) == 0 && (1 : Int) == 1 && (sIx its.size its.size hi - sIx its.size 0 lo) == its.size) = true then _ else _) _ _ s
  rw [if_pos (by rw [hw.1, hw.2]; simp)]
  refine wpAny_bind ?_
  unfold Builtin.Tuple.tupleIsExact
  refine wpAny_bind (wpAny_typeOf ht.typeIs (wpAny_pure ?_))
  rw [if_pos (by decide)]
  refine wpAny_bind (wpAny_rule ?_)
  first
    | exact wpAny_pure ⟨_, rfl, wpAny_pure h⟩
    | exact wpAny_bind (wpAny_pure (wpAny_pure ⟨_, rfl, wpAny_pure h⟩))
end
end HT
namespace L2
open PySem PySem.Spec PyProof.Rows Wd
inductive rSlTE (K : PySem.W.Frag) (x : V) (lo : Option Int) (hi : Option Int) (H : Hp) (Q : VK) : Prop
  | mk : ∀ a xs, (x = .ref a) → (SqT K H a xs) → ((cutV xs lo hi = xs → Q (.ref a) H)) → (∀ p, H p = none → Q (.ref p) (upd H p (.tup (cutV xs lo hi)))) → rSlTE K x lo hi H Q
theorem sl_tupE {X : Cx} : SlR X (rSlTE X.K) := by
  intro pins s σ H x v vl vu lo hi sl Q I rx hs pl pu h
  obtain ⟨a, xs, rfl, hx, hw, q⟩ := h
  by_cases hh : HT.sIx xs.length 0 lo = 0 ∧ HT.sIx xs.length xs.length hi = xs.length
  · cases rx
    obtain ⟨its, r, ht, hz⟩ := I.tuple hx
    have hlen : its.toArray.size = xs.length := by rw [List.size_toArray]; exact r.length.symm
    have e : cutV xs lo hi = xs := by unfold cutV; rw [hh.1, hh.2, List.drop_zero, Nat.sub_zero, List.take_length]
    exact ⟨"tuple", _, PyProof.Rows.slot_tuple_getitem.lookup, ht.typeIs, HT.cut_whole ht hs pl pu (by rw [hlen]; exact hh) ⟨.ref a, H, I, rfl, hw e⟩⟩
  · exact sl_tup pins s σ H (.ref a) v vl vu lo hi sl Q I rx hs pl pu ⟨a, xs, rfl, hx, hh, q⟩
end L2
set_option Elab.async false
set_option linter.all false
set_option maxRecDepth 100000
set_option maxHeartbeats 0
namespace Kx
open PySem PySem.Spec PyProof.Rows L2 Wd
theorem at0 {α : Type} (c : α) (t : List α) : atI (c :: t) (0 : Int) = some c := by unfold atI ixN; simp
theorem nl : ¬ ("letter" : Str) = "number" := by decide +kernel
theorem nt : ¬ ("turn" : Str) = "number" := by decide +kernel
theorem tl : ¬ ("turn" : Str) = "letter" := by decide +kernel
theorem cut1 (v : V) (r : List V) : cutV (v :: r) (some 1) none = r := by
  unfold cutV
  have e := HT.sIx_nat (v :: r).length 0 1
  rw [show ((1 : Nat) : Int) = 1 from rfl] at e
  rw [e, HT.sIx_none]
  simp only [List.length_cons]
  rw [show min 1 (r.length + 1) = 1 by omega]
  simp
end Kx
set_option Elab.async false
set_option linter.all false
set_option maxRecDepth 100000
set_option maxHeartbeats 0
namespace Kx
open PySem PySem.Spec PyProof.Rows L2 Wd
noncomputable def tj : List Stp → Str
  | [] => ""
  | s :: r => textOf (s :: r)
end Kx
set_option Elab.async false
set_option linter.all false
set_option maxRecDepth 100000
namespace Wd
open PySem L2
end Wd
namespace Kx
open PySem L2 Wd
end Kx
set_option Elab.async false
set_option linter.all false
set_option maxRecDepth 100000
namespace PySem
open Sem (wp)
section
variable {prog : Program} {w : World} {A : Around} {E : Value → Shared → Prop} {s : Shared}
section
variable {R : Result → Shared → Prop} {I : Addr} {fp wr : List Addr} {G : Array GenState → Array GenState → Prop} {n : Nat} {P : Nat → Value → Prop} {St : Nat → Shared → Prop}
end
end
end PySem
set_option Elab.async false
set_option linter.all false
set_option maxRecDepth 100000
namespace PySem
open Sem (wp)
section
variable {prog : Program} {w : World} {A : Around} {E : Value → Shared → Prop} {s : Shared}
end
end PySem
set_option Elab.async false
set_option linter.all false
set_option maxRecDepth 100000
namespace PySem
open Sem (wp)
section
variable {prog : Program} {w : World} {A : Around} {E : Value → Shared → Prop} {s : Shared}
section
variable {R : Result → Shared → Prop} {I : Addr} {fp wr : List Addr} {G : Array GenState → Array GenState → Prop} {n : Nat} {P : Nat → Value → Prop} {St : Nat → Shared → Prop}
end
end
end PySem
set_option Elab.async false
set_option linter.all false
set_option maxRecDepth 100000
namespace PySem
open Sem (wp)
section
variable {prog : Program} {w : World} {A : Around} {E : Value → Shared → Prop} {s : Shared}
end
end PySem
set_option Elab.async false
set_option linter.all false
set_option maxRecDepth 100000
namespace PySem
open Sem (wp)
section
variable {prog : Program} {w : World} {A : Around} {E : Value → Shared → Prop} {s : Shared}
end
end PySem
set_option Elab.async false
set_option linter.all false
set_option maxRecDepth 100000
namespace PySem
open Sem (wp)
section
variable {prog : Program} {w : World} {A : Around} {E : Value → Shared → Prop} {s : Shared}
end
end PySem
set_option Elab.async false
set_option linter.all false
set_option maxRecDepth 100000
namespace Ts
open PySem PyProof.Rows
section
variable {prog : Program} {w : World} {A : Around} {E : Value → Shared → Prop} {s : Shared} {κ : KeyKind}
end
end Ts
set_option Elab.async false
set_option linter.all false
set_option maxRecDepth 100000
namespace Ts
open PySem PyProof.Rows
end Ts
set_option Elab.async false
set_option linter.all false
set_option maxRecDepth 100000
namespace Ts
open PySem PyProof.Rows
variable {κ : KeyKind}
end Ts
set_option Elab.async false
set_option linter.all false
set_option maxRecDepth 100000
namespace Ts
open PySem PyProof.Rows
section
variable {prog : Program} {w : World} {A : Around} {E : Value → Shared → Prop} {s : Shared} {κ : KeyKind}
end
end Ts
set_option Elab.async false
set_option linter.all false
set_option maxRecDepth 100000
namespace Ts
open PySem PyProof.Rows
variable {κ : KeyKind}
section
variable {prog : Program} {w : World} {A : Around} {E : Value → Shared → Prop} {s : Shared}
end
end Ts
set_option Elab.async false
set_option linter.all false
set_option maxRecDepth 100000
namespace Ts
open PySem PyProof.Rows
variable {κ : KeyKind}
section
variable {prog : Program} {w : World} {A : Around} {E : Value → Shared → Prop} {s : Shared}
end
end Ts
set_option Elab.async false
set_option linter.all false
set_option maxRecDepth 100000
namespace Ts
open PySem PyProof.Rows
variable {κ : KeyKind}
section
variable {prog : Program} {w : World} {A : Around} {E : Value → Shared → Prop} {s : Shared}
end
end Ts
set_option Elab.async false
set_option linter.all false
set_option maxRecDepth 100000
namespace Ts
open PySem PyProof.Rows
variable {κ : KeyKind}
section
variable {prog : Program} {w : World} {A : Around} {E : Value → Shared → Prop} {s : Shared}
end
end Ts
set_option Elab.async false
set_option linter.all false
set_option maxRecDepth 100000
namespace Ts
open PySem PyProof.Rows
variable {κ : KeyKind}
section
variable {prog : Program} {w : World} {A : Around} {E : Value → Shared → Prop} {s : Shared}
end
end Ts
set_option Elab.async false
set_option linter.all false
set_option maxRecDepth 100000
namespace Ts
open PySem PyProof.Rows
variable {κ : KeyKind}
section
variable {prog : Program} {w : World} {A : Around} {E : Value → Shared → Prop} {s : Shared}
end
end Ts
set_option Elab.async false
set_option linter.all false
set_option maxRecDepth 100000
set_option maxHeartbeats 0
namespace Wd
section
variable {α : Type}
noncomputable def Adj : List α → α → α → Prop
  | a :: b :: t, x, y => (x = a ∧ y = b) ∨ Adj (b :: t) x y
  | _, _, _ => False
end
end Wd
set_option Elab.async false
set_option linter.all false
set_option maxRecDepth 100000
set_option maxHeartbeats 0
namespace Wd
section
variable {α : Type}
end
noncomputable def Row (u : List L) (C : List Nat) (g : Nat) : Prop := ∀ a b, Adj (C ++ [g]) a b → b = stepH u a
end Wd
set_option Elab.async false
set_option linter.all false
set_option maxRecDepth 100000
set_option maxHeartbeats 0
namespace Wd
noncomputable def Gc (u : List L) (C : List Nat) : Prop := ∃ g r, C = g :: r ∧ Row u C g
end Wd
set_option Elab.async false
set_option linter.all false
set_option maxRecDepth 100000
set_option maxHeartbeats 0
namespace Wd
section
variable {α : Type}
end
end Wd
set_option Elab.async false
set_option linter.all false
set_option maxRecDepth 100000
set_option maxHeartbeats 0
namespace Wd
section
variable {α : Type}
end
end Wd
set_option Elab.async false
set_option linter.all false
set_option maxRecDepth 100000
set_option maxHeartbeats 0
namespace Wd
end Wd
set_option Elab.async false
set_option linter.all false
set_option maxRecDepth 100000
set_option maxHeartbeats 0
namespace Wd
end Wd
set_option Elab.async false
set_option linter.all false
set_option maxRecDepth 100000
namespace PySem
end PySem
namespace L2
open PySem PySem.Spec PyProof.Rows Wd
section
variable {X : Cx}
end
end L2
set_option Elab.async false
set_option linter.all false
set_option maxRecDepth 100000
namespace L2
open PySem PySem.Spec PyProof.Rows Wd
section
variable {X : Cx}
inductive op_gt_str_r  (x : V) (y : V) (H : Hp) (Q : VK) : Prop
  | mk : ∀ i j, (x = .str i) → (y = .str j) → (Q (.bl (decide (j.cps.toList < i.cps.toList))) H) → op_gt_str_r x y H Q
theorem op_gt_str : OpR X (compareOp .Gt) op_gt_str_r := by
  intro pins s σ H x y v u Q I rx ry h
  obtain ⟨i, j, rfl, rfl, q⟩ := h
  obtain ⟨t, rfl⟩ := rx
  obtain ⟨t', rfl⟩ := ry
  exact PySem.P.gt_str (fin_bl I q rfl)
end
end L2
set_option linter.all false
namespace Wd
noncomputable def img (ws : List (List L)) (x : L) : List L := if x.val < 6 then ws.getD x.val [] else bk (ws.getD (x.val - 6) [])
noncomputable def sub (ws : List (List L)) (u : List L) : List L := u.flatMap (img ws)
end Wd
set_option Elab.async false
set_option linter.all false
set_option maxRecDepth 100000
namespace PySem
section
variable {prog : Program} {w : World} {A : Around} {E : Value → Shared → Prop}
end
end PySem
namespace L2
open PySem PySem.Spec PyProof.Rows Wd
section
variable {X : Cx} {pos : Pos}
inductive rNeD (x : V) (y : V) (H : Hp) (Q : VK) : Prop
  | mk : ∀ da db, (Dt H x da) → (Dt H y db) → (da.canLay0 = true) → (db.canLay0 = true) → (da.depth ≤ 10) → (Q (.bl (!PyData.eqv da db)) H) → rNeD x y H Q
theorem op_ne_dat (hu : X.A.units + 64 < cLine) : OpR X (compareOp .NotEq) rNeD := by
  intro pins s σ H x y v u Q I rx ry h
  obtain ⟨da, db, ha, hb, la, lb, dp, q⟩ := h
  obtain ⟨as, ra⟩ := ha.reads I.hok rx
  obtain ⟨bs, rb⟩ := hb.reads I.hok ry
  exact EqBoolInt.of_rcne (SeqAt.rcNeAt_reads ra rb la lb (by omega)) ⟨.bl _, H, I, rfl, q⟩
end
theorem lay_toS (u : List L) : (PyData.str (toS u)).canLay0 = true := by
  unfold PyData.canLay0 PyData.strOk
  rw [← Array.all_toList, toS_cps, List.all_eq_true]
  intro c hc
  obtain ⟨x, _, rfl⟩ := List.mem_map.mp hc
  have := cp_lt x
  exact decide_eq_true (by omega)
end L2
set_option Elab.async false
set_option linter.all false
set_option maxRecDepth 100000
set_option maxHeartbeats 0
namespace L2
open PySem PySem.Spec PyProof.Rows Wd
section
variable {X : Cx}
inductive rFind1 (x : V) (vs : List V) (H : Hp) (Q : VK) : Prop
  | mk : ∀ z y, (x = .str z) → (vs = [.str y]) → (Q (.int (Txt.find z y)) H) → rFind1 x vs H Q
theorem mt_find1 : MtR X "str.find" rFind1 := by
  intro pins s σ H x vs v us Q I rx rv h
  obtain ⟨z, y, rfl, rfl, q⟩ := h
  obtain ⟨t, rfl⟩ := rx
  obtain ⟨u1, rfl, ⟨t1, rfl⟩⟩ := vals1 rv
  exact SC.find ⟨.int _, H, I.tok _, ⟨_, rfl⟩, q⟩
theorem ix_listK {K : PySem.W.Frag} (hK : X.K = K) : IxR X (rIxL K) := by subst hK; exact ix_list
end
end L2
namespace L2
open PySem PySem.Spec PyProof.Rows Wd
end L2
namespace Kx
open PySem PySem.Spec PyProof.Rows L2 Wd
end Kx
set_option Elab.async false
set_option linter.all false
set_option maxRecDepth 100000
set_option maxHeartbeats 0
namespace Wd
end Wd
set_option Elab.async false
set_option linter.all false
set_option maxRecDepth 100000
set_option maxHeartbeats 0
namespace L2
open PySem PySem.Spec PyProof.Rows Wd
section
variable {X : Cx}
inductive rEqD (x : V) (y : V) (H : Hp) (Q : VK) : Prop
  | mk : ∀ da db, (Dt H x da) → (Dt H y db) → (da.canLay0 = true) → (db.canLay0 = true) → (da.depth ≤ 10) → (Q (.bl (PyData.eqv da db)) H) → rEqD x y H Q
theorem op_eq_dat (hu : X.A.units + 64 < cLine) : OpR X (compareOp .Eq) rEqD := by
  intro pins s σ H x y v u Q I rx ry h
  obtain ⟨da, db, ha, hb, la, lb, dp, q⟩ := h
  obtain ⟨as, ra⟩ := ha.reads I.hok rx
  obtain ⟨bs, rb⟩ := hb.reads I.hok ry
  exact SeqAt.rcAt_reads ra rb la lb (by omega) _ _ _ _ ⟨.bl _, H, I, rfl, q⟩
end
end L2
namespace Kx
open PySem PySem.Spec PyProof.Rows L2 Wd
end Kx
namespace L2
open PySem PySem.Spec PyProof.Rows Wd
section
variable {X : Cx}
end
end L2
set_option Elab.async false
set_option linter.all false
set_option maxRecDepth 100000
namespace L2
open PySem PySem.Spec PyProof.Rows
section
variable {prog : Program} {w : World} {A : Around} {E : Value → Shared → Prop} {s : Shared}
theorem cat_void {t b : Addr} {ws : List Value} {Q : Value → Shared → Prop} (ht : IsTup s.heap t ([] : List Value).toArray) (hb : IsTup s.heap b ws.toArray) (h1 : Q (.ref b) s) : wpAny (model prog w) A (binaryOp .Add (.ref t) (.ref b)) Q E s := by
  obtain ⟨⟨c1, d1, o1, l1⟩, e1, g1, n, k1⟩ := id ht
  obtain ⟨⟨c2, d2, o2, l2⟩, e2, g2, n2, k2⟩ := id hb
  simp only at g1 k1 g2 k2
  subst g1 k1 g2 k2
  exact concat_meets ⟨_, e1, rfl⟩ ⟨_, e2, rfl⟩ noFill_tuple_add seq_tuple_add PySem.F.slot_tuple_add PySem.F.entry_tuple_add (PySem.F.args_tuple_add_2 _ _) (tuple_addW0 t b _ ws.toArray n n2 d1 d2 l1 l2 rfl) ⟨e1, e2, h1⟩
end
section
variable {X : Cx}
end
end L2
set_option Elab.async false
set_option linter.all false
set_option maxRecDepth 100000
set_option maxHeartbeats 0
namespace L2
open PySem PySem.Spec PyProof.Rows Wd
section
variable {X : Cx}
inductive rCatU (x : V) (y : V) (H : Hp) (Q : VK) : Prop
  | mk : ∀ a b xs ys, (x = .ref a) → (y = .ref b) → (H a = some (.tup xs)) → (H b = some (.tup ys)) → (xs.length + ys.length ≤ sizeLine) → (∀ p H', Same H H' → H' p = some (.tup (xs ++ ys)) → Q (.ref p) H') → rCatU x y H Q
theorem op_catU : OpR X (binaryOp .Add) rCatU := by
  intro pins s σ H x y v u Q I rx ry h
  obtain ⟨a, b, xs, ys, ex, ey, ha, hb, hz, q⟩ := h
  by_cases hx : xs = []
  · subst ex ey hx
    cases rx
    cases ry
    obtain ⟨its, r1, p1, _⟩ := I.tuple (SqT.of ha)
    obtain ⟨its2, r2, p2, _⟩ := I.tuple (SqT.of hb)
    cases r1
    exact cat_void p1 p2 ⟨.ref b, H, I, rfl, q b H (Same.refl _) hb⟩
  · exact op_catT pins s σ H x y v u Q I rx ry ⟨a, b, xs, ys, ex, ey, SqT.of ha, SqT.of hb, hx, hz, fun e => q a H (Same.refl _) (by rw [e, List.append_nil]; exact ha), fun _ p hp => q p _ (Same.new hp) upd_same⟩
inductive op_notB_r  (x : V) (y : V) (H : Hp) (Q : VK) : Prop
  | mk : ∀ a b, (x = .bl a) → (y = .bl b) → (Q (.bl (!(a == b))) H) → op_notB_r x y H Q
theorem op_notB : OpR X (compareOp .IsNot) op_notB_r := by
  intro pins s σ H x y v u Q I rx ry h
  obtain ⟨a, b, rfl, rfl, q⟩ := h
  cases rx
  cases ry
  refine wpAny_isNot_plain (by cases a <;> cases b <;> rfl) ⟨.bl _, H, I, ?_, q⟩
  cases a <;> cases b <;> rfl
inductive call_repr_V_r  (xs : List V) (H : Hp) (Q : VK) : Prop
  | mk : ∀ v d, (xs = [v]) → (Dt H v d) → (Sh d) → ((∀ i, d = .int i → i.natAbs.log2 < 1920)) → (Q (.str d.shown) H) → call_repr_V_r xs H Q
theorem call_repr_V (hg : X.A.guards = some []) (hu : X.A.units + 64 < cLine) : CallR X (.builtin "repr") call_repr_V_r := by
  intro pins s σ H xs us Q I r h
  obtain ⟨v, d, rfl, q, S, hi, hQ⟩ := h
  obtain ⟨u, rfl, ru⟩ := vals1 r
  cases q with
  | non => cases ru; exact P.repr_of_none ⟨.str _, H, I.tok _, ⟨_, rfl⟩, hQ⟩
  | bl b => cases ru; exact P.repr_of_bool ⟨.str _, H, I.tok _, ⟨_, rfl⟩, hQ⟩
  | int i => obtain ⟨t, rfl⟩ := ru; exact P.repr_of_int (hi i rfl) ⟨.str _, H, I.tok _, ⟨_, rfl⟩, hQ⟩
  | str x => obtain ⟨t, rfl⟩ := ru; exact P.repr_of_str ⟨.str _, H, I.tok _, ⟨_, rfl⟩, hQ⟩ S.sz
  | lst e qs => exact call_repr_dat hg hu pins s σ H _ _ Q I (.cons ru .nil) ⟨_, _, rfl, .lst e qs, S, hQ⟩
  | tup e qs => exact call_repr_dat hg hu pins s σ H _ _ Q I (.cons ru .nil) ⟨_, _, rfl, .tup e qs, S, hQ⟩
end
end L2
namespace L2
open PySem PySem.Spec PyProof.Rows Wd
inductive rSlU (x : V) (lo : Option Int) (hi : Option Int) (H : Hp) (Q : VK) : Prop
  | mk : ∀ a xs, (x = .ref a) → (H a = some (.tup xs)) → (∀ p H', Same H H' → H' p = some (.tup (cutV xs lo hi)) → Q (.ref p) H') → rSlU x lo hi H Q
theorem sl_tupU {X : Cx} : SlR X rSlU := by
  intro pins s σ H x v vl vu lo hi sl Q I rx hs pl pu h
  obtain ⟨a, xs, rfl, hx, q⟩ := h
  exact sl_tupE pins s σ H _ v vl vu lo hi sl Q I rx hs pl pu ⟨a, xs, rfl, SqT.of hx, fun e => q a H (Same.refl _) (by rw [e]; exact hx), fun p hp => q p _ (Same.new hp) upd_same⟩
mutual
theorem Dt.mono {H H' : Hp} (ok : ∀ b xs, H b = some (.lst xs) → H' b = some (.lst xs)) (ok2 : ∀ b xs, H b = some (.tup xs) → H' b = some (.tup xs)) : ∀ {v : V} {d : PyData}, Dt H v d → Dt H' v d
  | _, _, .non => .non
  | _, _, .bl b => .bl b
  | _, _, .int i => .int i
  | _, _, .str x => .str x
  | _, _, .lst e q => .lst (ok _ _ e) (Dts.mono ok ok2 q)
  | _, _, .tup e q => .tup (ok2 _ _ e) (Dts.mono ok ok2 q)
theorem Dts.mono {H H' : Hp} (ok : ∀ b xs, H b = some (.lst xs) → H' b = some (.lst xs)) (ok2 : ∀ b xs, H b = some (.tup xs) → H' b = some (.tup xs)) : ∀ {vs : List V} {ds : List PyData}, Dts H vs ds → Dts H' vs ds
  | _, _, .nil => .nil
  | _, _, .cons q qs => .cons (Dt.mono ok ok2 q) (Dts.mono ok ok2 qs)
end
theorem Dt.same {H H' : Hp} (s : Same H H') {v : V} {d : PyData} (h : Dt H v d) : Dt H' v d := h.mono (fun _ _ e => s _ _ e) fun _ _ e => s _ _ e
theorem fits40 {d : PyData} (h : d.leavesShort 40 = true) (hw : d.weight ≤ 2 ^ 18) : d.shown.length ≤ sizeLine := by
  have := PyData.shown_le 40 (by decide) d h
  have e : sizeLine = 16777216 := sizeLine_eq
  rw [e]
  omega
structure Sm (d : PyData) : Prop where
  sh : d.showable = true
  nd : d.hasDict = false
  dp : d.depth ≤ 4
  lv : d.leavesShort 40 = true
  wt : d.weight ≤ 400
  nt : ∀ i, d = .int i → i.natAbs.log2 < 1920
theorem sm_bool (b : Bool) : Sm (.bool b) := ⟨rfl, rfl, by cases b <;> decide, rfl, by cases b <;> decide, fun i e => by cases e⟩
theorem all_sm {ds : List PyData} (h : ∀ d ∈ ds, Sm d) : PyData.showableAll ds = true ∧ PyData.hasDictAll ds = false ∧ PyData.depthAll ds ≤ 4 ∧ PyData.leavesShortAll 40 ds = true ∧ PyData.weightAll ds ≤ ds.length * 401 := by
  induction ds with
  | nil => exact ⟨rfl, rfl, Nat.zero_le _, rfl, Nat.zero_le _⟩
  | cons d r ih =>
    obtain ⟨a, b, c, e, f⟩ := ih fun x hx => h x (List.mem_cons_of_mem _ hx)
    have S := h d List.mem_cons_self
    refine ⟨?_, ?_, ?_, ?_, ?_⟩
    · show (PyData.showable d && PyData.showableAll r) = true
      rw [S.sh, a]; rfl
    · show (PyData.hasDict d || PyData.hasDictAll r) = false
      rw [S.nd, b]; rfl
    · show max (PyData.depth d) (PyData.depthAll r) ≤ 4
      have := S.dp
      omega
    · show (PyData.leavesShort 40 d && PyData.leavesShortAll 40 r) = true
      rw [S.lv, e]; rfl
    · show PyData.weight d + 1 + PyData.weightAll r ≤ (r.length + 1) * 401
      have := S.wt
      omega
theorem sh_tupD {ds : List PyData} (h : ∀ d ∈ ds, Sm d) (hl : ds.length ≤ 100) : Sh (.tuple ds) := by
  obtain ⟨a, b, c, e, f⟩ := all_sm h
  have : ds.length * 401 ≤ 100 * 401 := Nat.mul_le_mul_right _ hl
  exact ⟨a, b, by show PyData.depthAll ds + 1 ≤ 10; omega, fits40 e (by show PyData.weightAll ds ≤ 2 ^ 18; omega)⟩
theorem sh_sm {d : PyData} (S : Sm d) : Sh d := ⟨S.sh, S.nd, by have := S.dp; omega, fits40 S.lv (by have := S.wt; omega)⟩
end L2
namespace Kx
open PySem PySem.Spec PyProof.Rows L2 Wd
end Kx

set_option Elab.async false
set_option linter.all false
namespace Kx
open PySem PySem.Spec PyProof.Rows L2 Wd
end Kx
set_option Elab.async false
set_option linter.all false
set_option maxRecDepth 100000
set_option maxHeartbeats 0
namespace L2
open PySem PySem.Spec PyProof.Rows Wd
section
variable {X : Cx}
end
end L2
set_option Elab.async false
set_option linter.all false
set_option maxRecDepth 100000
set_option maxHeartbeats 0
namespace Wd
noncomputable def nm (N : List L) (x : L) : L := if x.val < 6 then N.getD x.val 0 else inv (N.getD (x.val - 6) 0)
end Wd
namespace L2
open PySem PySem.Spec PyProof.Rows Wd
section
variable {X : Cx}
end
end L2
namespace Kx
open PySem PySem.Spec PyProof.Rows L2 Wd
end Kx
set_option Elab.async false
set_option linter.all false
set_option maxRecDepth 100000
namespace L2
open PySem PySem.Spec PyProof.Rows
section
variable {prog : Program} {w : World} {A : Around} {E : Value → Shared → Prop} {s : Shared}
end
section
variable {X : Cx}
end
section
variable {prog : Program} {w : World} {A : Around} {E : Value → Shared → Prop} {s : Shared}
end
section
variable {X : Cx}
end
end L2
set_option Elab.async false
set_option linter.all false
set_option maxRecDepth 100000
namespace PySem
open Sem (wp)
section
variable {prog : Program} {w : World} {A : Around} {E : Value → Shared → Prop} {s : Shared} {z TI TO i1 i2 : Addr} {x y : Str} {t u : Tok} {k c d : Nat} {a b : Value}
end
end PySem
set_option Elab.async false
set_option linter.all false
set_option maxRecDepth 100000
namespace L2
open PySem PySem.Spec PyProof.Rows
section
variable {X : Cx}
end
end L2
set_option Elab.async false
set_option linter.all false
set_option maxRecDepth 100000
namespace PySem
end PySem
namespace L2
open PySem PySem.Spec PyProof.Rows Wd
section
variable {X : Cx}
end
end L2
set_option Elab.async false
set_option linter.all false
set_option maxRecDepth 100000
namespace HT
open PySem PySem.Spec PyProof.Rows
section
variable {prog : Program} {w : World} {A : Around} {E : Value → Shared → Prop} {s : Shared}
theorem sliceApplied_rev {sl : Addr} {tk : Tok} {n : Nat} {Q : Int × Int × Nat → Shared → Prop} (hs : s.heap.IsSliceOf sl .none .none (.int (-1) tk))
    (h : Q ((n : Int) - 1, -1, n) s) : wpAny (model prog w) A (Builtin.Slice.sliceApplied (.ref sl) (pure (n : Int))) Q E s := by
  obtain ⟨os, hos, hcs, hds⟩ := id hs
  unfold Builtin.Slice.sliceApplied Builtin.Slice.sliceFields
  refine wpAny_bind (wpAny_bind (wpAny_field hos hds (x := .none) rfl (wpAny_bind (wpAny_field hos hds (x := .none) rfl (wpAny_bind (wpAny_field hos hds (x := .int (-1) tk) rfl (wpAny_pure ?_)))))))
  refine wpAny_bind (slicePart_int ?_)
  show wpAny _ _ (if ((-1 : Int) == 0) = true then _ else _) _ _ s
  rw [if_neg (by decide)]
  refine wpAny_bind (slicePart_none (wpAny_bind (slicePart_none (wpAny_bind (wpAny_pure ?_)))))
  have e : Builtin.Slice.slicePlaces ((n : Int) - 1) (-1) (-1) = n := by
    unfold Builtin.Slice.slicePlaces
    rw [if_neg (by decide)]
    by_cases hn : n = 0
    · subst hn; decide
    · rw [if_pos (by omega), show (-(-1) : Int) = 1 from rfl, Int.ediv_one]; omega
  show wpAny _ _ (pure ((n : Int) - 1, (-1 : Int), Builtin.Slice.slicePlaces ((n : Int) - 1) (-1) (-1))) _ _ s
  rw [e]
  exact wpAny_pure h
theorem filterMap_some {α β : Type} {f : α → Option β} {g : α → β} : ∀ {l : List α}, (∀ m ∈ l, f m = some (g m)) → l.filterMap f = l.map g
  | [], _ => rfl
  | a :: r, h => by rw [List.filterMap_cons_some (h a List.mem_cons_self), List.map_cons, filterMap_some fun m hm => h m (List.mem_cons_of_mem _ hm)]
theorem pick_rev (xs : Array Value) : ((List.range xs.size).filterMap fun (m : Nat) => xs[((xs.size : Int) - 1 + (m : Int) * (-1)).toNat]?).toArray = xs.toList.reverse.toArray := by
  congr 1
  have e : ∀ m ∈ List.range xs.size, xs[((xs.size : Int) - 1 + (m : Int) * (-1)).toNat]? = some ((fun m => xs.toList.getD (xs.size - 1 - m) .none) m) := by
    intro m hm
    have hm := List.mem_range.mp hm
    have : ((xs.size : Int) - 1 + (m : Int) * (-1)).toNat = xs.size - 1 - m := by omega
    rw [this]
    have hlt : xs.size - 1 - m < xs.size := by omega
    simp [List.getD, hlt]
  rw [filterMap_some e]
  apply List.ext_getElem?
  intro i
  rw [List.getElem?_map]
  by_cases hi : i < xs.size
  · rw [List.getElem?_range hi, List.getElem?_reverse (by simpa using hi)]
    have hlt : xs.size - 1 - i < xs.size := by omega
    simp [List.getD, hlt]
  · rw [List.getElem?_eq_none (by simpa using hi), List.getElem?_eq_none (by simp; omega)]
    rfl
theorem getItem_tuple_rev {t sl : Addr} {items : Array Value} {tk : Tok} {Q : Value → Shared → Prop} (ht : IsTup s.heap t items) (hs : s.heap.IsSliceOf sl .none .none (.int (-1) tk))
    (h : Q (.ref s.heap.objs.size) { s with heap := s.heap.push { cls := .type "tuple", data := .seq items.toList.reverse.toArray } })
    (hsz : items.size ≤ sizeLine) : wpAny (model prog w) A (getItem (.ref t) (.ref sl)) Q E s := by
  have htake : sizeOk (.seq items.toList.reverse.toArray) := by
    show items.toList.reverse.toArray.size ≤ sizeLine
    rw [List.size_toArray, List.length_reverse, Array.length_toList]
    exact hsz
  obtain ⟨os, hos, hcs, hds⟩ := id hs
  have hTs : s.TypeIs (.ref sl) "slice" := ⟨os, hos, hcs⟩
  unfold getItem
  try with_reducible refine wpAny_holding ?_
  first | refine wpAny_bind (wpAny_pure ?_) | skip
  refine wpAny_bind (wpAny_sequenceKey ht.typeIs (by decide) ?_)
  refine wpAny_bind (wpAny_callSpecial?_slot (name := Str.ofString "__getitem__") ht.typeIs PyProof.Rows.slot_tuple_getitem
    (wpAny_call_entry PyProof.Rows.slot_tuple_getitem ht.typeIs entry_tuple_getitem ?_ (args_tuple_getitem _ _)))
  show wpAny _ _ (Builtin.Tuple.tupleItemsOf (.ref t) >>= _) _ _ s
  refine wpAny_bind (tupleItemsOf_ ht ?_)
  refine wpAny_bind (wpAny_typeOf hTs ?_)
  rw [if_pos (by decide)]
  refine wpAny_bind (sliceApplied_rev hs ?_)
  show wpAny _ _ (if ((((items.size : Nat) : Int) - 1 == 0 && (-1 : Int) == 1 && items.size == items.size) = true) then _ else _) _ _ s
  rw [if_neg (by simp), pick_rev]
  first
    | exact wpAny_bind (m := Builtin.Tuple.tupleExact _) (wpAny_newObj_type (wpAny_pure ⟨_, rfl, wpAny_pure h⟩) htake)
    | exact wpAny_bind (m := Builtin.Tuple.tupleExact _) (wpAny_newObj_type (wpAny_bind (wpAny_pure (wpAny_pure ⟨_, rfl, wpAny_pure h⟩))) htake)
    | exact wpAny_bind (wpAny_bind (m := Builtin.Tuple.tupleExact _) (wpAny_newObj_type (wpAny_pure (wpAny_pure ⟨_, rfl, wpAny_pure h⟩)) htake))
    | exact wpAny_bind (wpAny_bind (m := Builtin.Tuple.tupleExact _) (wpAny_newObj_type (wpAny_pure ⟨_, rfl, wpAny_pure h⟩) htake))
end
end HT
namespace L2
open PySem PySem.Spec PyProof.Rows Wd
section
variable {X : Cx}
noncomputable def tRevT (te ts : TE) : TE := fun σ H Q => te σ H fun x H1 => ts σ H1 fun k H2 => ∃ a xs, x = .ref a ∧ k = .int (-1) ∧ H2 a = some (.tup xs) ∧ ∀ p, H2 p = none → Q (.ref p) (upd H2 p (.tup xs.reverse))
theorem pe_revT {e st : Expr} {te ts : TE} {pos p2 : Pos} (he : PE X e te) (hs : PE X st ts) : PE X (.Subscript e (.Slice none none (some st) p2) pos) (tRevT te ts) := by
  intro pins s σ H Q I h
  refine Subscript_ (thn (he pins s σ H _ I h) fun v s1 zq1 => ?_)
  obtain ⟨x, H1, I1, r1, q1⟩ := zq1
  refine wpAny_Slice ?_
  rw [evalPart_none]
  refine wpAny_pure ?_
  refine wpAny_pure ?_
  rw [evalPart_some]
  refine thn (hs pins s1 σ H1 _ I1 q1) fun vs s3 zq2 => ?_
  obtain ⟨k, H3, I3, r3, a, xs, ez, ek, hx, q3⟩ := zq2
  subst ez ek
  cases r1
  obtain ⟨tk, rfl⟩ := r3
  have I4 : Inv X pins σ H3 { s3 with heap := s3.heap.push { cls := .type "slice", data := .fields #[.none, .none, .int (-1) tk] } } := I3.kept (t' := s3.toks) fun b ob q => Heap.get?_push_of_some _ q
  obtain ⟨its, r, ht, hz⟩ := I4.tuple (SqT.of (K := X.K) hx)
  show wpAny (model X.prog X.w) X.A (subscriptTail e (.Slice none none (some st) p2) (.ref a) (.ref s3.heap.objs.size)) (EP X pins σ Q) X.xe { s3 with heap := s3.heap.push { cls := .type "slice", data := .fields #[.none, .none, .int (-1) tk] } }
  refine tail_any (ops := [.ref a, .ref s3.heap.objs.size]) ht.typeIs PyProof.Rows.slot_tuple_getitem.lookup ?_ (by with_unfolding_all rfl)
  refine HT.getItem_tuple_rev (tk := tk) ht ⟨_, Heap.get?_push_size _ rfl, rfl, rfl⟩ ?_ (by rw [List.size_toArray, ← r.length]; exact hz)
  refine ⟨.ref _, _, I4.laid (t' := s3.toks) (o := .tup xs.reverse) (fun b ob q => Heap.get?_push_of_some _ q) (Nat.le_refl _) ?_, rfl, q3 _ (I4.hok.fresh (Nat.le_refl _))⟩
  refine ⟨by rw [List.length_reverse]; exact hz, _, ?_, IsTup.new _ _, .new _ _ rfl⟩
  exact r.reverse
end
end L2
namespace L2
open PySem PySem.Spec PyProof.Rows Wd
end L2
namespace L2
open PySem PySem.Spec PyProof.Rows Wd
end L2
set_option Elab.async false
set_option linter.all false
set_option maxRecDepth 100000
namespace L2
open PySem PySem.Spec PyProof.Rows Wd
section
variable {X : Cx}
end
end L2
namespace HT
open PySem PySem.Spec PyProof.Rows PySem.SeqAt
end HT

namespace L2
open PySem PySem.Spec PyProof.Rows Wd
section
variable {X : Cx}
end
end L2
namespace L2
open PySem PySem.Spec PyProof.Rows Wd
end L2
namespace L2
open PySem PySem.Spec PyProof.Rows Wd
end L2
set_option Elab.async false
set_option linter.all false
namespace Wd
noncomputable def swp (s i : Nat) : Nat := if i = 0 then s else if i = s then 0 else i
noncomputable def cjR (n s : Nat) (r : List Nat) : List Nat := (List.range n).map fun i => swp s (r.getD (swp s i) 0)
noncomputable def cj (n s : Nat) (t : List (List Nat)) : List (List Nat) := t.map (cjR n s)
end Wd
set_option Elab.async false
set_option linter.all false
set_option maxRecDepth 100000
set_option maxHeartbeats 0
namespace Kx
open PySem PySem.Spec PyProof.Rows L2 Wd
noncomputable def whV : V → Bool
  | .int _ => true
  | _ => false
inductive Wh (K : PySem.W.Frag) (H : Hp) : V → Prop
  | mk {x : V} {n : String} {b1 b2 : Bool} (ty : TyOf K H x (.type n)) (e1 : PySem.W.kitOne K (.type n) (.type "int") = some b1) (e2 : PySem.W.kitOne K (.type n) (.type "bool") = some b2) (h : whV x = (b1 && !b2)) : Wh K H x
inductive Cp (K : PySem.W.Frag) (H : Hp) : V → Option (Int × Int) → Prop
  | cap {a : Addr} {i j : Int} (h : H a = some (.tup [.int i, .int j])) : Cp K H (.ref a) (some (i, j))
  | tup {a : Addr} {xs : List V} (h : H a = some (.tup xs)) (hx : ∀ y ∈ xs, Wh K H y) (hl : xs.length ≤ 400) (ne : ¬ (xs.length = 2 ∧ xs.all whV = true)) : Cp K H (.ref a) none
  | oth {x : V} {n : String} (ty : TyOf K H x (.type n)) (e : PySem.W.kitOne K (.type n) (.type "tuple") = some false) : Cp K H x none
inductive Cs (K : PySem.W.Frag) (H : Hp) : V → Option (List (Option (Int × Int))) → Prop
  | tup {a : Addr} {xs : List V} {cs : List (Option (Int × Int))} (h : H a = some (.tup xs)) (hx : ∀ (i : Nat) (x : V), xs[i]? = some x → ∃ c, cs[i]? = some c ∧ Cp K H x c) (hl : xs.length ≤ 400) (hc : cs.length = xs.length) : Cs K H (.ref a) (some cs)
  | oth {x : V} {n : String} (ty : TyOf K H x (.type n)) (e : PySem.W.kitOne K (.type n) (.type "tuple") = some false) : Cs K H x none
noncomputable def fst (c : Option (Int × Int)) : Int := match c with | some (i, _) => i | none => 0
end Kx
namespace Kx
open PySem PySem.Spec PyProof.Rows L2 Wd
end Kx
namespace Kx
open PySem PySem.Spec PyProof.Rows L2 Wd
end Kx
set_option Elab.async false
set_option linter.all false
set_option maxRecDepth 100000
set_option maxHeartbeats 0
namespace Kx
open PySem PySem.Spec PyProof.Rows L2 Wd
end Kx
set_option Elab.async false
set_option linter.all false
set_option maxRecDepth 100000
set_option maxHeartbeats 0
namespace Kx
open PySem PySem.Spec PyProof.Rows L2 Wd
noncomputable def iv (r : List Nat) : List V := r.map fun i : Nat => V.int (i : Int)
end Kx
namespace Kx
open PySem PySem.Spec PyProof.Rows L2 Wd
end Kx
namespace Kx
open PySem PySem.Spec PyProof.Rows L2 Wd
end Kx
namespace Kx
open PySem PySem.Spec PyProof.Rows L2 Wd
end Kx
namespace Kx
open PySem PySem.Spec PyProof.Rows L2 Wd
end Kx
namespace Kx
open PySem PySem.Spec PyProof.Rows L2 Wd
end Kx
set_option Elab.async false
set_option linter.all false
set_option maxRecDepth 100000
namespace Kx
open PySem PySem.Spec PyProof.Rows L2 Wd
end Kx
set_option Elab.async false
set_option linter.all false
set_option maxRecDepth 100000
namespace L2
open PySem PySem.Spec PyProof.Rows
theorem upd_idle {h : Heap} {T : Addr} {o : Obj} {f : Obj → Obj} (ho : h.get? T = some o) (hf : f o = o) (b : Addr) : (h.update T f).get? b = h.get? b := by
  by_cases e : T = b
  · subst e
    have := Heap.get?_update_self f ho (by rw [hf]; exact (Heap.get?_some_iff.mp ho).2)
    rw [this, hf, ho]
  · exact Heap.get?_update_other _ _ e
theorem map_idle {oT : Obj} {ts : Array Value} {i : Nat} {v : Value} (hd : oT.data = .fields ts) (h3 : ts[i]? = some v) : Obj.mapFields (·.setIfInBounds i v) oT = oT := by
  obtain ⟨c, d, dt, sl⟩ := oT
  simp only at hd
  subst hd
  obtain ⟨hi, hv⟩ := Array.getElem?_eq_some_iff.mp h3
  have : ts.setIfInBounds i v = ts := by
    apply Array.ext
    · simp
    · intro j h1 h2
      by_cases hj : i = j
      · subst hj; simp [hv]
      · rw [Array.getElem_setIfInBounds_ne _ hj]
  simp only [Obj.mapFields, this]

noncomputable def FltT (T : Addr) (h : Heap) (a : Addr) (fl : Value) : Prop :=
  ∃ oe vs oT ts, h.get? a = some oe ∧ oe.data = .fields vs ∧ vs[1]? = some (.ref T) ∧ T ≠ a ∧ h.get? T = some oT ∧ oT.data = .fields ts ∧ ts[3]? = some fl
noncomputable def Flt (h : Heap) (a : Addr) (fl : Value) : Prop := ∃ T, FltT T h a fl

structure Nts (fs : List Addr) (a : Addr) (fl : Value) (h h' : Heap) : Prop where
  keep : ∀ b o, b ∉ fs → b ≠ a → h.get? b = some o → h'.get? b = some o
  slot : ∀ b o, b ∈ fs → h.get? b = some o → ∃ sl, h'.get? b = some { o with slots := sl }
  exc : ∀ oe vs, h.get? a = some oe → oe.data = .fields vs → ∃ oe' vs', h'.get? a = some oe' ∧ oe'.cls = oe.cls ∧ oe'.dict = oe.dict ∧ oe'.data = .fields vs' ∧ vs'.size = vs.size
  fly : ∃ T, h.objs.size ≤ T ∧ FltT T h' a fl

section
variable {M : Model} {A : Around} {E : Value → Shared → Prop} {s : Shared}
set_option maxHeartbeats 1600000 in
theorem entryX {base : Heap} {env : Env} {outer : List Env} {L e : Addr} {oe : Obj} {vs : Array Value} {head : Value} {hadNext : Bool} {Q : Unit → Shared → Prop}
    (hfr : A.frames = some (env :: outer)) (hl : s.heap.FunFrames base (env :: outer)) (hf : env.frame = some L)
    (he : s.heap.get? e = some oe) (hd : oe.data = .fields vs) (hsz : 1 < vs.size)
    (h : ∀ h', Nts (frs (env :: outer)) e (rawInt L) s.heap h' → Q () { s with heap := h' }) :
    wpAny M A (do let a ← frameOf env; let pl ← entryPlaceOf L hadNext; let b ← EntryCells.newEntry head a .none (rawInt L) .none pl; setField (.ref e) 1 b) Q E s := by
  have hene : e ∉ frs (env :: outer) := fun hm => by
    obtain ⟨_, o, ho, hnf⟩ := hl.mem hm
    rw [he] at ho; injection ho with ho; subst ho; exact hnf vs hd
  refine wpAny_bind (wpAny_frameOf_fun hfr hl hf fun h₁ hs₁ => ?_)
  refine wpAny_bind (wpAny_entryPlaceOf fun pl hpl => ?_)
  unfold EntryCells.newEntry newFields
  refine wpAny_bind (wpAny_newObj_type ?_ (hpl.sizeOk5 _ _ _ _ _))
  generalize hN : ({ cls := .type "traceback", dict := none, data := .fields ([head, .ref L, .none, rawInt L, .none] ++ (if pl.isEmpty then List.replicate 6 Value.none else pl)).toArray } : Obj) = oN
  have hNd : oN.data = .fields ([head, .ref L, .none, rawInt L, .none] ++ (if pl.isEmpty then List.replicate 6 Value.none else pl)).toArray := by rw [← hN]
  have hNf : oN.isFreed = false := by rw [← hN]; rfl
  have he₁ : h₁.get? e = some oe := (hs₁.2.1 e hene).trans he
  have he₂ := Heap.get?_push_of_some (h := h₁) oN he₁
  refine wpAny_setField he₂ hd hsz (h _ ?_)
  have hTe : h₁.objs.size ≠ e := Nat.ne_of_gt (Heap.lt_size he₁)
  have hd₃ := Obj.data_mapFields hd (·.setIfInBounds 1 (Value.ref h₁.objs.size))
  have he₃ := Heap.get?_update_self (Obj.mapFields (·.setIfInBounds 1 (Value.ref h₁.objs.size))) he₂ (Obj.isFreed_of_fields hd₃)
  have hT₃ := (Heap.get?_update_other (h₁.push oN) (Obj.mapFields (·.setIfInBounds 1 (Value.ref h₁.objs.size))) (Ne.symm hTe)).trans (Heap.get?_push_size h₁ hNf)
  have keep : ∀ b o, b ≠ e → h₁.get? b = some o → ((h₁.push oN).update e (Obj.mapFields (·.setIfInBounds 1 (Value.ref h₁.objs.size)))).get? b = some o := fun b o hbe hb => by
    rw [Heap.get?_update_other _ _ (Ne.symm hbe)]
    exact Heap.get?_push_of_some _ hb
  refine ⟨fun b o hb hbe q => keep b o hbe ((hs₁.2.1 b hb).trans q), fun b o hb q => ?_, fun oe' vs' q qd => ?_, ?_⟩
  · obtain ⟨sl, q'⟩ := hs₁.2.2 b o q
    exact ⟨sl, keep b _ (fun z => hene (z ▸ hb)) q'⟩
  · rw [he] at q; cases q
    rw [hd] at qd; cases qd
    refine ⟨_, _, he₃, Obj.cls_mapFields _ _, ?_, hd₃, by simp⟩
    obtain ⟨c, d, dt, sl⟩ := oe
    cases dt <;> rfl
  · refine ⟨h₁.objs.size, Nat.le_of_eq hs₁.1.symm, _, _, oN, _, he₃, hd₃, by simp [hsz], hTe, hT₃, hNd, ?_⟩
    first | (simp; done) | (rcases hpl with rfl | ⟨_, _, _, _, _, _, _, rfl⟩ <;> simp)

theorem noteX {base : Heap} {env : Env} {outer : List Env} {L e : Addr} {oe : Obj} {vs : Array Value} {Q : Unit → Shared → Prop}
    (hfr : A.frames = some (env :: outer)) (hl : s.heap.FunFrames base (env :: outer)) (hf : env.frame = some L)
    (he : s.heap.get? e = some oe) (hd : oe.data = .fields vs) (h1 : vs[1]? = some .none ∨ Flt s.heap e .none)
    (h : ∀ h', Nts (frs (env :: outer)) e (rawInt L) s.heap h' → Q () { s with heap := h' }) : wpAny M A (noteFrame (.ref e) env) Q E s := by
  unfold noteFrame
  simp only [hf]
  rcases h1 with h1 | ⟨T, oe', vs', oT, ts, he', hd', h1, hTe, hT, hdT, h3⟩
  · refine wpAny_bind (wpAny_field he hd h1 ?_)
    rw [if_neg (by decide)]
    exact entryX hfr hl hf he hd (Array.getElem?_eq_some_iff.mp h1).1 h
  · rw [he] at he'; cases he'
    rw [hd] at hd'; cases hd'
    refine wpAny_bind (wpAny_field he hd h1 ?_)
    rw [if_pos (show (Value.ref T != Value.none) = true from by simp)]
    refine wpAny_bind (wpAny_field hT hdT h3 ?_)
    rw [if_neg (show ¬ ((Value.none == rawInt L) = true) from by simp [rawInt])]
    refine wpAny_bind (wpAny_setField hT hdT (Array.getElem?_eq_some_iff.mp h3).1 ?_)
    have idle := upd_idle (f := Obj.mapFields (·.setIfInBounds 3 Value.none)) hT (map_idle hdT h3)
    refine entryX hfr (hl.of_keeps fun b o hb _ => ⟨o, (idle b).trans hb, rfl⟩) hf ((idle e).trans he) hd (Array.getElem?_eq_some_iff.mp h1).1 fun h' N => h h' ?_
    obtain ⟨k1, k2, k3, k4⟩ := N
    refine ⟨fun b o hb hbe q => k1 b o hb hbe ((idle b).trans q), fun b o hb q => k2 b o hb ((idle b).trans q), fun o v q d => k3 o v ((idle e).trans q) d, ?_⟩
    obtain ⟨T', b1, b2⟩ := k4
    exact ⟨T', Nat.le_trans (Nat.le_of_eq (Heap.size_after_update ..).symm) b1, b2⟩

theorem flightX {T e : Addr} {fl : Value} {Q : Unit → Shared → Prop} (hF : FltT T s.heap e fl)
    (h : ∀ h', FltT T h' e .none → (∀ b o, b ≠ T → s.heap.get? b = some o → h'.get? b = some o) → (∀ b, (∃ o, s.heap.get? b = some o) → ∃ o, h'.get? b = some o) → (fl = .none → ∀ b, h'.get? b = s.heap.get? b) → Q () { s with heap := h' }) :
    wpAny M A (setFlight (.ref e) none) Q E s := by
  obtain ⟨oe, vs, oT, ts, he, hd, h1, hTe, hT, hdT, h3⟩ := hF
  have hsz3 : 3 < ts.size := (Array.getElem?_eq_some_iff.mp h3).1
  have other : ∀ b, b ≠ T → (s.heap.update T (Obj.mapFields (·.setIfInBounds 3 ((none : Option Addr).elim Value.none fun f => rawInt f)))).get? b = s.heap.get? b :=
    fun b hb => Heap.get?_update_other _ _ (Ne.symm hb)
  have hT' := Heap.get?_update_self (Obj.mapFields (·.setIfInBounds 3 ((none : Option Addr).elim Value.none fun f => rawInt f))) hT (Obj.isFreed_of_fields (Obj.data_mapFields hdT _))
  unfold setFlight
  refine wpAny_bind (wpAny_field he hd h1 ?_)
  rw [if_pos (show (Value.ref T != Value.none) = true from by simp)]
  refine wpAny_setField hT hdT hsz3 (h _ ⟨oe, vs, _, _, (other e (Ne.symm hTe)).trans he, hd, h1, hTe, hT', Obj.data_mapFields hdT _, by simp [hsz3]⟩ (fun b o hb q => (other b hb).trans q) (fun b ⟨o, q⟩ => ?_) fun z b => ?_)
  · by_cases z : b = T
    · subst z; exact ⟨_, hT'⟩
    · exact ⟨o, (other b z).trans q⟩
  · subst z
    exact upd_idle hT (map_idle hdT h3) b

theorem leaveX {base : Heap} {env : Env} {outer : List Env} {L e : Addr} {oe : Obj} {vs : Array Value} {Q : Unit → Shared → Prop}
    (hfr : A.frames = some (env :: outer)) (hl : s.heap.FunFrames base (env :: outer)) (hf : env.frame = some L)
    (he : s.heap.get? e = some oe) (hd : oe.data = .fields vs) (h1 : vs[1]? = some .none ∨ Flt s.heap e .none)
    (h : ∀ h', Nts (frs (env :: outer)) e .none s.heap h' → Q () { s with heap := h' }) : wpAny M A (leaving env (.ref e)) Q E s := by
  unfold leaving
  refine wpAny_bind (noteX hfr hl hf he hd h1 fun h₁ N => ?_)
  obtain ⟨k1, k2, k3, T, hT, k4⟩ := N
  refine flightX (s := { s with heap := h₁ }) k4 fun h₂ f1 f2 f3 _ => h h₂ ⟨fun b o hb hbe q => f2 b o (fun z => ?_) (k1 b o hb hbe q), fun b o hb q => ?_, fun oe vs q qd => ?_, T, hT, f1⟩
  · exact absurd (Nat.lt_of_lt_of_le (Heap.lt_size q) (z ▸ hT)) (Nat.lt_irrefl _)
  · obtain ⟨sl, q'⟩ := k2 b o hb q
    exact ⟨sl, f2 b _ (fun z => absurd (Nat.lt_of_lt_of_le (Heap.lt_size q) (z ▸ hT)) (Nat.lt_irrefl _)) q'⟩
  · obtain ⟨oe', vs', q1, q2⟩ := k3 oe vs q qd
    exact ⟨oe', vs', f2 e _ (fun z => absurd (Nat.lt_of_lt_of_le (Heap.lt_size q) (z ▸ hT)) (Nat.lt_irrefl _)) q1, q2⟩
end
end L2
set_option Elab.async false
set_option linter.all false
set_option maxRecDepth 100000
namespace L2
open PySem PySem.Spec PyProof.Rows
noncomputable def exo (a C : Addr) (d : Option Addr) (b : Bool) : Heap → Prop := fun h =>
  ∃ oe vs, h.get? a = some oe ∧ oe.cls = .ref C ∧ oe.dict = d ∧ oe.data = .fields vs ∧ vs.size = 6 ∧ (b = true → vs[1]? = some .none)
noncomputable abbrev Exo (a C : Addr) (d : Option Addr) (b : Bool) : HO := .ext (exo a C d b)
theorem exo_stay {a C : Addr} {d : Option Addr} {b : Bool} {h1 h2 : Heap} (x : exo a C d b h1) (k : ∀ o, h1.get? a = some o → h2.get? a = some o) : exo a C d b h2 :=
  let ⟨oe, vs, q, r⟩ := x; ⟨oe, vs, k _ q, r⟩
theorem exo_ok {P : Program} {w : World} {H : Hp} {h : Heap} {a C : Addr} {d : Option Addr} {b : Bool} (x : exo a C d b h) : ObjOk P w H h a (Exo a C d b) :=
  ⟨x, let ⟨oe, _, q, _⟩ := x; ⟨oe, q⟩, fun _ _ y k => exo_stay y k⟩
theorem upd_idem {H : Hp} {a : Addr} {o : HO} (h : H a = some o) : upd H a o = H := by
  funext b
  by_cases e : b = a
  · subst e; rw [upd_same, h]
  · rw [upd_ne e]

noncomputable def CXe (P : Program) (w : World) : CXT := fun outer H s E e s' =>
  ∃ a C d H', e = .ref a ∧ s'.os = s.os ∧ AllBare s'.gens ∧ Un (frs outer) [] H H' s.heap s'.heap ∧ HOk P w H' s'.heap ∧ H' a = some (Exo a C d false) ∧ Flt s'.heap a .none ∧ E (.ref a) none H'


section
variable {P : Program} {w : World} {H : Hp} {h h' : Heap} {fs : List Addr} {e C : Addr} {d : Option Addr} {b : Bool} {fl : Value}
theorem nts_un (ok : HOk P w H h) (he : H e = some (Exo e C d b)) (hfs : ∀ c ∈ fs, H c = none) (N : Nts fs e fl h h') :
    Un fs [] H (upd H e (Exo e C d false)) h h' ∧ HOk P w (upd H e (Exo e C d false)) h' := by
  obtain ⟨⟨oe, vs, g1, g2, g3, g4, g5, g6⟩, _, _⟩ := ok e _ he
  obtain ⟨oe', vs', n1, n2, n3, n4, n5⟩ := N.exc oe vs g1 g4
  have hx : exo e C d false h' := ⟨oe', vs', n1, n2.trans g2, n3.trans g3, n4, n5.trans g5, fun z => by cases z⟩
  have ne : ∀ c, H c = none → c ≠ e := fun c n z => by rw [z, he] at n; cases n
  have ne' : ∀ c u, H c = some u → u ≠ Exo e C d b → c ≠ e := fun c u q n z => by rw [z, he] at q; cases q; exact n rfl
  refine ⟨⟨fun c o q n hc _ => N.keep c o hc (ne c n) q, fun c o q n hc _ => N.slot c o hc q, fun c o q n _ => by rw [upd_ne (ne c n)]; exact n, fun c o q _ => ?_,
    fun c xs q => by rw [upd_ne (ne' c _ q (by intro z; cases z))]; exact q, fun c o u q => by rw [upd_ne (ne' c _ q (by intro z; cases z))]; exact q, fun c ps q => ⟨#[], by rw [upd_ne (ne' c _ q (by intro z; cases z)), q]; simp⟩⟩, fun c u q => ?_⟩
  · by_cases z : c = e
    · subst z; exact ⟨_, n1⟩
    · by_cases y : c ∈ fs
      · obtain ⟨sl, r⟩ := N.slot c o y q
        exact ⟨_, r⟩
      · exact ⟨o, N.keep c o y z q⟩
  · by_cases z : c = e
    · subst z; rw [upd_same] at q; cases q; exact exo_ok hx
    · rw [upd_ne z] at q
      refine (ok c u q).stay (fun x v hx q' => ?_) (fun x hx => by rw [upd_ne (ne' x _ hx (by intro z; cases z))]; exact hx) fun x xs hx => by rw [upd_ne (ne' x _ hx (by intro z; cases z))]; exact hx
      have nx : x ≠ e := by
        rcases hx with rfl | hx
        · exact z
        · exact ne' x _ hx (by intro z; cases z)
      refine N.keep x v (fun y => ?_) nx q'
      have := hfs x y
      rcases hx with rfl | hx
      · rw [this] at q; cases q
      · rw [this] at hx; cases hx
end

noncomputable def Raises (X : Cx) (E : XK) : Prop := ∀ (pins : List (Addr × Obj)) (σ : St) (H : Hp) (s : Shared) (a C : Addr) (d : Option Addr), Inv X pins σ H s → H a = some (Exo a C d true) → E (.ref a) none (upd H a (Exo a C d false)) → X.xe (.ref a) s

section
variable {P : Program} {w : World} {K : PySem.W.Frag} {mg : Str → Option Value} {base : Heap} {N : List Str} {qual : Str} {scope : Scope} {f : Addr} {cd : Value} {A : Around} {outer : List Env} {s : Shared} {H : Hp} {E : XK}
theorem leave_def {pins : List (Addr × Obj)} {σ : St} {H1 : Hp} {s1 : Shared} {a C : Addr} {d : Option Addr} {b : Bool} (I : Inv (cxOf (CXe P w) P w K mg base N qual scope f cd A outer s H E) pins σ H1 s1)
    (ha : H1 a = some (Exo a C d b)) (hf : b = true ∨ Flt s1.heap a .none) (hE : E (.ref a) none (upd H1 a (Exo a C d false))) : (cxOf (CXe P w) P w K mg base N qual scope f cd A outer s H E).xe (.ref a) s1 := by
  obtain ⟨⟨oe, vs, g1, g2, g3, g4, g5, g6⟩, _, _⟩ := I.hok a _ ha
  refine leaveX (base := base) (outer := outer) I.ok.frames I.stack rfl g1 g4 (hf.imp (fun z => g6 z) id) fun h' Nt => ?_
  obtain ⟨un, hok⟩ := nts_un I.hok ha I.stkFree Nt
  have J := I.call' (s' := { s1 with heap := h' }) rfl un hok I.bare (fun b z => absurd z (by simp))
  obtain ⟨T, _, hT⟩ := Nt.fly
  exact ⟨a, C, d, _, rfl, J.os, J.bare, J.base, J.hok, upd_same .., ⟨T, hT⟩, hE⟩
theorem raises_def : Raises (cxOf (CXe P w) P w K mg base N qual scope f cd A outer s H E) E := fun pins σ H1 s1 a C d I ha hE => leave_def I ha (.inl rfl) hE
theorem passes_def : Passes (CXe P w) (cxOf (CXe P w) P w K mg base N qual scope f cd A outer s H E) E := by
  intro pins σ H1 s1 e s' I ⟨a, C, d, H', he, os, bare, un, hok, ha, hf, hE⟩
  subst he
  have J := I.call' os un hok bare (fun b z => absurd z (by simp))
  exact leave_def J ha (.inr hf) (by rw [upd_idem ha]; exact hE)
end
end L2
set_option Elab.async false
set_option linter.all false
set_option maxRecDepth 100000
namespace L2
open PySem PySem.Spec PyProof.Rows
noncomputable abbrev bmV : List Value := [.type "ValueError", .type "Exception", .type "BaseException", .type "object"]
structure XCl (K : PySem.W.Frag) (C : Addr) (bm : List Value) : Prop where
  obj : ∃ dd cd k0 k1 k2 k3 k5, K.lookup C = some ⟨.type "type", dd, .cls cd, #[k0, k1, k2, k3, some (.builtin "ValueError.__new__"), k5]⟩ ∧ cd.mro = .ref C :: bm ∧ cd.hasDel = false ∧ cd.hasDict = true
  tl : PySem.W.tailIn K bmV bm = true
  kp : PySem.W.keepIn K (.ref C) = true
noncomputable abbrev xtup (us : List Value) : Obj := { cls := .type "tuple", data := .seq us.toArray }
noncomputable abbrev xnew (C t : Addr) : Obj := { cls := .ref C, data := .fields #[.ref t, .none, .none, .none, .bool false, .none] }
theorem XCl.at {K : PySem.W.Frag} {C : Addr} {bm : List Value} {h : Heap} (x : XCl K C bm) (X : K.In h) : OwnTail h bmV bm ∧ ∃ nm q N bs sn sub ab col dd k0 k1 k2 k3 k5, h.get? C = some (excClassObj nm q C N bs bm true sn sub ab col dd k0 k1 k2 k3 k5 "ValueError.__new__") := by
  refine ⟨PySem.W.tail_of_in X x.tl, ?_⟩
  obtain ⟨dd, cd, k0, k1, k2, k3, k5, hl, hm, hd, hh⟩ := x.obj
  obtain ⟨nm, bs, mro, ns, qn, hdc, sn, sub, ab, col, del⟩ := cd
  dsimp only at hm hd hh
  subst hm hd hh
  exact ⟨nm, qn, ns, bs, sn, sub, ab, col, dd, k0, k1, k2, k3, k5, X _ _ hl⟩

section
variable {prog : Program} {w : World} {A : Around} {E : Value → Shared → Prop} {h : Heap} {g : Array GenState} {d : Drawn} {t : Nat} {os : OsState} {K : PySem.W.Frag} {C fI : Addr} {bm : List Value}
set_option maxHeartbeats 1600000 in
theorem type_call_X {rest : List Value} {Q : Fin → Shared → Prop} (X : K.In h) (x : XCl K C bm) (hi : PySem.W.findIn K (.ref C) "__init__" = some (some (.ref fI))) (hf : PySem.W.isFn K (.ref fI) = true)
    (hq : wpAny (model prog w) A (call (.ref fI) (.ref (h.objs.size + 1) :: rest)) (fun r s' => r = .none ∧ Q (.done (.ret (.ref (h.objs.size + 1)))) s') E ⟨(h.push (xtup rest)).push (xnew C h.objs.size), g, d, t, os⟩) (hrest : rest.length ≤ sizeLine) :
    wpAny (model prog w) A (Builtin.«type.__call__» ⟨.ref C :: rest, []⟩) Q E ⟨h, g, d, t, os⟩ := by
  obtain ⟨T, nm, q, N, bs, sn, sub, ab, col, dd, k0, k1, k2, k3, k5, hC⟩ := x.at X
  have F := PySem.F.excBase_ValueError
  repeat (first | with_reducible refine wpAny_loadPart_at hC ?_ | with_reducible refine wpAny_madeBy_exc hC ?_ | wp_step)
  refine codeAny_call_builtin_code (Code.quiet_builtin _ F.quiet) (wpAny_check_new_subT F T hC ?_)
  refine codeAny_exc_new_subT F T hC ?_ hrest
  show wpAny _ _ _ _ _ _
  have k1 : ∀ b o, h.get? b = some o → ((h.push (xtup rest)).push (xnew C h.objs.size)).get? b = some o := fun b o e => Heap.get?_push_of_some _ (Heap.get?_push_of_some _ e)
  have hC₁ := k1 _ _ hC
  have X₁ : K.In ((h.push (xtup rest)).push (xnew C h.objs.size)) := fun b o e => k1 b o (X b o e)
  have hget : ((h.push (xtup rest)).push (xnew C h.objs.size)).get? (h.objs.size + 1) = some (xnew C h.objs.size) := by heap_get
  have hcC : (Value.ref C :: bm).contains (.ref C) = true := by simp
  unfold isInstance
  repeat (first | with_reducible refine wpAny_loadPart_at hget ?_ | (with_reducible refine wpAny_isSubtype_exc hC₁ ?_; rw [hcC]) | wp_step)
  show wpAny _ _ (typeLookup (.ref C) _) _ _ _
  refine (PySem.W.looks_findIn (M := model prog w) X₁ hi).at ?_
  refine wpAny_holding (wpAny_bind ?_)
  unfold bindSpecial
  have L := PySem.W.looks_typeIn (M := model prog w) X₁ (beq_iff_eq.mp hf)
  refine wpAny_bind (L.at ?_)
  rw [if_pos (by decide)]
  refine wpAny_pure (wpAny_bind (wpAny_mono hq (fun r s' hr => ?_) fun _ _ x => x))
  obtain ⟨rfl, hQ⟩ := hr
  wp_walk
  exact hQ

theorem call_X {rest : List Value} {Q : Value → Shared → Prop} (X : K.In h) (x : XCl K C bm) (hi : PySem.W.findIn K (.ref C) "__init__" = some (some (.ref fI))) (hf : PySem.W.isFn K (.ref fI) = true)
    (hq : wpAny (model prog w) (A.under (.builtin "type.__call__" ⟨.ref C :: rest, []⟩)) (call (.ref fI) (.ref (h.objs.size + 1) :: rest)) (fun r s' => r = .none ∧ Q (.ref (h.objs.size + 1)) s') E ⟨(h.push (xtup rest)).push (xnew C h.objs.size), g, d, t, os⟩) (hrest : rest.length ≤ sizeLine) :
    wpAny (model prog w) A (call (.ref C) rest) Q E ⟨h, g, d, t, os⟩ := by
  obtain ⟨T, nm, q, N, bs, sn, sub, ab, col, dd, k0, k1, k2, k3, k5, hC⟩ := x.at X
  have f1 := tc_lookup
  have f2 := tc_bind (.ref C)
  have hT : (⟨h, g, d, t, os⟩ : Shared).TypeIs (.ref C) "type" := ⟨_, hC, rfl⟩
  refine wpAny_call (codeAny_of_tree ?_)
  show wpAny _ _ (callAny (.ref C) _) _ _ _
  repeat (any_goals (first | assumption | with_reducible refine wpAny_loadPart_at hC ?_ | wp_step))
  refine ⟨rfl, ?_⟩
  exact codeAny_call_builtin_at (Code.quiet_builtin _ (by decide +kernel)) entry_typeCall (wpAny_check_type_call_sub hC (type_call_X X x hi hf hq hrest))
end

section
variable {X : Cx} {k : Nat} {f C : Addr} {fd : FuncData} {ps : List Str} {sp : Sp} {x : Str} {p pos : Pos} {e : Expr} {es : List Expr} {t : TA} {bm : List Value}
theorem Inv.madeX {pins : List (Addr × Obj)} {σ : St} {H : Hp} {s : Shared} (I : Inv X pins σ H s) (us : List Value) : Inv X pins σ (upd H (s.heap.objs.size + 1) (Exo (s.heap.objs.size + 1) C none true)) { s with heap := (s.heap.push (xtup us)).push (xnew C s.heap.objs.size) } := by
  have I1 := I.kept (h' := s.heap.push (xtup us)) (t' := s.toks) (fun b u q => Heap.get?_push_of_some _ q)
  refine I1.laid (a := s.heap.objs.size + 1) (t' := s.toks) (fun b u q => Heap.get?_push_of_some _ q) (Nat.le_of_eq (Heap.size_push _ _)) (exo_ok ⟨xnew C s.heap.objs.size, _, ?_, rfl, rfl, rfl, rfl, fun _ => rfl⟩)
  have := Heap.get?_push_size (s.heap.push (xtup us)) (o := xnew C s.heap.objs.size) rfl
  rwa [Heap.size_push] at this
theorem run_makeX {pins : List (Addr × Obj)} {σ : St} {H : Hp} {s : Shared} {Q : VK} {us : List Value} {vs : List V} (M : XCl X.K C bm) (hi : PySem.W.findIn X.K (.ref C) "__init__" = some (some (.ref f))) (hf : PySem.W.isFn X.K (.ref f) = true)
    (F : FnOk X.prog X.w X.K X.mg X.base CX0 k f fd ps sp) (hr : Room (k + 1) X.A) (hb : Binds X.K fd ps []) (I : Inv X pins σ H s) (r : Vals vs us)
    (h : vs.length ≤ 1000 ∧ ∀ x, H x = none → sp (.ref x :: vs) (upd H x (Exo x C none true)) (fun v H2 => v = .non ∧ Q (.ref x) H2) E0) : wpAny (model X.prog X.w) X.A (call (.ref C) us) (EP X pins σ Q) X.xe s := by
  obtain ⟨hl0, h⟩ := h
  have hq := h (s.heap.objs.size + 1) (I.hok.fresh (Nat.le_succ _))
  have I2 := Inv.madeX (C := C) I us
  have r2 : Vals (V.ref (s.heap.objs.size + 1) :: vs) (Value.ref (s.heap.objs.size + 1) :: us) := .cons rfl r
  have hl : (Value.ref (s.heap.objs.size + 1) :: us ++ []).length = ps.length := by
    have e := r2.length
    rw [F.len _ _ _ _ hq] at e
    rw [List.append_nil]
    exact e.symm
  obtain ⟨hh, g, d, tk, os⟩ := s
  refine call_X I.kIn M hi hf (wpAny_call ?_) (by rw [← r.length, sizeLine_eq]; omega)
  have hb' := hb ⟨(hh.push (xtup us)).push (xnew C hh.objs.size), g, d, tk, os⟩ (Value.ref (hh.objs.size + 1) :: us) I2.kIn hl
  rw [List.append_nil] at hb'
  refine codeAny_mono (F.run _ X.stack _ _ ⟨Value.ref (hh.objs.size + 1) :: us, []⟩ (Value.ref (hh.objs.size + 1) :: us) _ _ E0 (hr.make C us []) (I2.env0.make C us []) hb' r2 hq) fun r s' hq' => ?_
  cases r with
  | error e => exact hq'.elim
  | ok fl =>
    cases fl with
    | ret u =>
      obtain ⟨v, H', I3, rv, ev, q3⟩ := I2.after hq'
      subst ev
      exact ⟨rv, ⟨V.ref (hh.objs.size + 1), H', I3, rfl, q3⟩⟩
    | next => exact False.elim hq'
    | brk => exact False.elim hq'
    | cont => exact False.elim hq'
end
end L2
set_option Elab.async false
set_option linter.all false
set_option maxRecDepth 100000
namespace L2
open PySem PySem.Spec PyProof.Rows Builtin Builtin.ObjectAttr
section
variable {prog : Program} {w : World} {A : Around} {E : Value → Shared → Prop} {h : Heap} {g : Array GenState} {d : Drawn} {t : Nat} {os : OsState} {K : PySem.W.Frag} {C e : Addr} {bm : List Value} {oe : Obj} {vs : Array Value}
theorem init_X {rest : List Value} {R : Result → Shared → Prop} (X : K.In h) (x : XCl K C bm) (he : h.get? e = some oe) (hcls : oe.cls = .ref C) (hd : oe.data = .fields vs) (hsz : vs.size = 6) (hrest : rest.length ≤ sizeLine)
    (hq : R (.ok (.ret .none)) ⟨(h.push (xtup rest)).update e (Obj.mapFields (·.setIfInBounds 0 (.ref h.objs.size))), g, d, t, os⟩) :
    codeAny (model prog w) A (.call (.builtin "ValueError.__init__") ⟨.ref e :: rest, []⟩) R ⟨h, g, d, t, os⟩ := by
  obtain ⟨T, nm, q, N, bs, sn, sub, ab, col, dd, k0, k1, k2, k3, k5, hC⟩ := x.at X
  have F := PySem.F.excBase_ValueError
  refine codeAny_call_builtin F.init.plain F.initEntry (wpAny_check_init_subT F T hC he hcls ?_)
  unfold Builtin.«BaseException.__init__»
  refine wpAny_bind (m := newTuple rest) ?_
  unfold newTuple
  refine wpAny_newObj_type ?_ (by show rest.toArray.size ≤ sizeLine; rw [List.size_toArray]; exact hrest)
  have he₁ := Heap.get?_push_of_some (h := h) (xtup rest) he
  have h0 : ∃ a0, vs[0]? = some a0 := ⟨vs[0], Array.getElem?_eq_getElem (by omega)⟩
  obtain ⟨a0, h0⟩ := h0
  unfold BaseException.bexcPut
  refine wpAny_bind (wpAny_bind (wpAny_field he₁ hd h0 (wpAny_bind (wpAny_setField he₁ hd (by omega) ?_))))
  cases a0 <;> first | exact wpAny_letGo (wpAny_pure hq) | exact wpAny_pure (wpAny_pure hq)

theorem refuse_tail {bm : List Value} {self : Value} (T : OwnTail h bmV bm) : refuseLoop self "__setattr__" bm = pure () := by
  induction T with
  | base => exact PySem.F.store_ValueError.passes self
  | own _ _ _ _ ih => rw [refuseLoop_ref]; exact ih

structure SetX (h h' : Heap) (e : Addr) (oe : Obj) (name : Str) (v : Value) (mA : Str → Option Value) (dx : Addr) : Prop where
  ns : h'.Ns1 dx fun y => if y = name then some v else mA y
  exc : h'.get? e = some { oe with dict := some dx }
  keep : ∀ b o, b ≠ e → b ≠ dx → h.get? b = some o → h'.get? b = some o
section
variable {name : Str} {v : Value} {mA : Str → Option Value}
set_option maxHeartbeats 1600000 in
theorem set_entryX {tk : Tok} {Q : Fin → Shared → Prop} {ns : List Str} (X : K.In h) (x : XCl K C bm) (hna : PySem.W.findIn K (.ref C) name = some none)
    (hx : h.get? e = some oe) (hc : oe.cls = .ref C) (hnc : oe.data = .fields vs) (hd : (oe.dict = none ∧ ∀ n, mA n = none) ∨ ∃ dx, oe.dict = some dx ∧ dx ≠ e ∧ h.Ns1 dx mA)
    (hq : ∀ h' tk' dx, SetX h h' e oe name v mA dx → (oe.dict = none → dx = h.objs.size) → (∀ dy, oe.dict = some dy → dx = dy) → Q (.done (.ret .none)) ⟨h', g, d, tk', os⟩) (hw : Within mA ns) (hsz : ns.length ≤ 1000) :
    wpAny (model prog w) A (Builtin.«object.__setattr__» ⟨[.ref e, .str name tk, v], []⟩) Q E ⟨h, g, d, t, os⟩ := by
  obtain ⟨T, nm, q, N, bs, sn, sub, ab, col, dd, k0, k1, k2, k3, k5, hC⟩ := x.at X
  have hpass := refuse_tail (self := .ref e) T
  have L := PySem.W.looks_findIn (M := model prog w) X hna
  unfold Builtin.«object.__setattr__»
  repeat (first | rw [refuse_eq] | (rw [refuseLoop_ref, hpass]) | (with_reducible refine wpAny_loadPart_at hx ?_; rw [hc]) | with_reducible refine wpAny_mroOf_exc hC ?_ | with_reducible refine L.at ?_ | wp_step)
  rcases hd with ⟨hdn, hmA⟩ | ⟨dx, hdx, hne, hns⟩
  · rw [hdn, if_neg (by simp [typeHasDict])]
    split
    · rename_i hcd
      cases hcd
    split
    · rename_i c hcd
      rw [hnc] at hcd; cases hcd
    · have hx₁ : (h.push { cls := .type "dict", data := .dict #[] }).get? e = some oe := Heap.get?_push_of_some _ hx
      have hxs : e ≠ h.objs.size := Nat.ne_of_lt (Heap.lt_size hx)
      refine wpAny_bind (wpAny_alloc' ?_)
      refine wpAny_bind (wpAny_update' hx₁ ?_)
      refine wpAny_pure ?_
      have hgd : ((h.push { cls := .type "dict", data := .dict #[] }).update e fun o => { cls := o.cls, dict := some h.objs.size, data := o.data, slots := o.slots }).get? h.objs.size
          = some { cls := .type "dict", data := .dict #[] } :=
        (Heap.get?_update_ne _ _ _ _ hxs.symm).trans (Heap.get?_push_at rfl rfl)
      have hnd : ((h.push { cls := .type "dict", data := .dict #[] }).update e fun o => { cls := o.cls, dict := some h.objs.size, data := o.data, slots := o.slots }).Ns h.objs.size (fun _ => none) :=
        ⟨_, #[], _, hgd, rfl, fun e he => absurd he (by simp), fun _ => rfl⟩
      show wpAny _ _ (storeInDict h.objs.size (.str name tk) name v) _ _ _
      unfold storeInDict newKeyGuard
      refine wpAny_bind (wpAny_pure (wpAny_bind (wpAny_nsSet1 (Heap.Ns1.of_empty hnd) fun h' hn' hs => ?_)))
      obtain ⟨oD, esD, epD, hoD, hdD, hcD⟩ := hn'.count (Within.cons name v Within.nil)
      refine wpAny_bind (wpAny_lookBehind hoD (by rw [hdD]; exact pastItsLine_dict (Nat.le_trans hcD (by rw [List.length_cons, List.length_nil, sizeLine_eq]; omega))) ?_)
      wp_walk
      refine hq h' _ h.objs.size ⟨?_, ?_, fun b o hbx _ hb => ?_⟩ (fun _ => rfl) fun dy q => by rw [hdn] at q; cases q
      · obtain ⟨o', es, ep, e1, e2, e3, eu, e4⟩ := hn'
        exact ⟨o', es, ep, e1, e2, e3, eu, fun y => by rw [e4 y]; by_cases hy : y = name <;> simp [hy, hmA]⟩
      · exact (hs.2 e hxs).trans (Heap.get?_update_self _ hx₁ (Obj.isFreed_of_fields hnc))
      · exact (hs.2 b (Nat.ne_of_lt (Heap.lt_size hb))).trans ((Heap.get?_update_ne _ _ _ _ hbx).trans (Heap.get?_push_of_some _ hb))
  · rw [hdx]
    refine wpAny_pure ?_
    show wpAny _ _ (storeInDict dx (.str name tk) name v) _ _ _
    unfold storeInDict newKeyGuard
    refine wpAny_bind (wpAny_pure (wpAny_bind (wpAny_nsSet1 hns fun h' hn' hs => ?_)))
    obtain ⟨oD, esD, epD, hoD, hdD, hcD⟩ := hn'.count (Within.cons name v hw)
    refine wpAny_bind (wpAny_lookBehind hoD (by rw [hdD]; exact pastItsLine_dict (Nat.le_trans hcD (by rw [List.length_cons, sizeLine_eq]; omega))) ?_)
    wp_walk
    refine hq h' _ dx ⟨hn', ?_, fun b ob _ hbd hb => (hs.2 b hbd).trans hb⟩ (fun q => by rw [hdx] at q; cases q) fun dy q => by rw [hdx] at q; cases q; rfl
    rw [(hs.2 e hne.symm).trans hx]
    obtain ⟨c, dd, dt, sl⟩ := oe
    simp only at hdx
    subst hdx
    rfl

theorem check_saX {M : Model} {nameV : Value} {Q : Unit → Shared → Prop} (X : K.In h) (x : XCl K C bm) (hx : h.get? e = some oe) (hc : oe.cls = .ref C) (hq : Q () ⟨h, g, d, t, os⟩) :
    wpAny M A (checkBuiltinCall "object.__setattr__" ⟨[.ref e, nameV, v], []⟩) Q E ⟨h, g, d, t, os⟩ := by
  obtain ⟨T, nm, q, N, bs, sn, sub, ab, col, dd, k0, k1, k2, k3, k5, hC⟩ := x.at X
  have SF := PySem.F.store_ValueError
  have hcB : (Value.ref C :: bm).contains (.type "object") = true := by rw [List.contains_cons, T.hasType SF.hasOwner, Bool.or_true]
  have ha := SF.args (.ref e) nameV v
  simp only [checkBuiltinCall, SF.kind, SF.split]
  refine wpAny_bind ?_
  unfold isInstance
  repeat (first | (with_reducible refine wpAny_loadPart_at hx ?_; rw [hc]) | (with_reducible refine wpAny_isSubtype_exc hC ?_; rw [hcB]) | wp_step)
  exact hq

theorem set_X {Q : Unit → Shared → Prop} {ns : List Str} (X : K.In h) (x : XCl K C bm) (hsa : PySem.W.findIn K (.ref C) "__setattr__" = some (some (.builtin "object.__setattr__"))) (hna : PySem.W.findIn K (.ref C) name = some none)
    (hx : h.get? e = some oe) (hc : oe.cls = .ref C) (hnc : oe.data = .fields vs) (hd : (oe.dict = none ∧ ∀ n, mA n = none) ∨ ∃ dx, oe.dict = some dx ∧ dx ≠ e ∧ h.Ns1 dx mA)
    (hq : ∀ h' tk' dx, SetX h h' e oe name v mA dx → (oe.dict = none → dx = h.objs.size) → (∀ dy, oe.dict = some dy → dx = dy) → Q () ⟨h', g, d, tk', os⟩) (hw : Within mA ns) (hsz : ns.length ≤ 1000) :
    wpAny (model prog w) A (setAttr (.ref e) name v) Q E ⟨h, g, d, t, os⟩ := by
  obtain ⟨T, nm, q, N, bs, sn, sub, ab, col, dd, k0, k1, k2, k3, k5, hC⟩ := id (x.at X)
  have SF := PySem.F.store_ValueError
  have f3 := SF.slot.bind (.ref e)
  have L := PySem.W.looks_findIn (M := model prog w) X hsa
  unfold setAttr callSpecial? specialOf
  repeat (any_goals (first | assumption | (with_reducible refine wpAny_loadPart_at hx ?_; rw [hc]) | with_reducible refine L.at ?_ | wp_step))
  refine codeAny_call_builtin SF.slot.plain SF.entry (check_saX X x hx hc (set_entryX X x hna hx hc hnc hd (fun h' tk' dx a b c => ?_) hw hsz))
  repeat (any_goals (first | assumption | wp_step))
  exact hq h' tk' dx a b c
end
end
end L2
set_option Elab.async false
set_option linter.all false
set_option maxRecDepth 100000
namespace L2
open PySem PySem.Spec PyProof.Rows
noncomputable def xdt (d : Addr) (fs : List (Str × V)) : Heap → Prop := fun h => ∃ mA, h.Ns1 d mA ∧ (∀ f, RelO (fs.lookup f) (mA f)) ∧ PySem.Within mA (fs.map (·.1))
noncomputable abbrev Xdt (d : Addr) (fs : List (Str × V)) : HO := .ext (xdt d fs)
theorem xdt_ok {P : Program} {w : World} {H : Hp} {h : Heap} {d : Addr} {fs : List (Str × V)} (x : xdt d fs h) : ObjOk P w H h d (Xdt d fs) :=
  ⟨x, let ⟨_, ⟨o, _, _, q, _⟩, _⟩ := x; ⟨o, q⟩, fun _ _ y k => let ⟨mA, n, r⟩ := y; ⟨mA, n.at k, r⟩⟩

structure XAt (K : PySem.W.Frag) (C : Addr) : Prop where
  cl : ∃ bm, XCl K C bm
  sa : PySem.W.findIn K (.ref C) "__setattr__" = some (some (.builtin "object.__setattr__"))
  ga : PySem.W.findIn K (.ref C) "__getattribute__" = some (some (.builtin "BaseException.__getattribute__"))
  gn : PySem.W.findIn K (.ref C) "__getattr__" = some none

section
variable {X : Cx} {pins : List (Addr × Obj)} {σ : St} {H : Hp} {s : Shared} {A : Around} {E : Value → Shared → Prop} {a C : Addr} {b : Bool} {f : Str} {y : V} {u : Value} {Q : Unit → Shared → Prop}
theorem exo_get {P : Program} {w : World} {h : Heap} {d : Option Addr} (ok : HOk P w H h) (e : H a = some (Exo a C d b)) : exo a C d b h := (ok a _ e).1
theorem xdt_get {P : Program} {w : World} {h : Heap} {d : Addr} {fs : List (Str × V)} (ok : HOk P w H h) (e : H d = some (Xdt d fs)) : xdt d fs h := (ok d _ e).1
theorem setx0_ok (I : Inv X pins σ H s) (ea : H a = some (Exo a C none b)) (x : XAt X.K C) (hna : PySem.W.findIn X.K (.ref C) f = some none) (ry : RelV y u)
    (h : ∀ s' dx, H dx = none → dx ≠ a → Inv X pins σ (upd (upd H a (Exo a C (some dx) b)) dx (Xdt dx [(f, y)])) s' → Q () s') : wpAny (model X.prog X.w) A (setAttr (.ref a) f u) Q E s := by
  obtain ⟨oe, vs, g1, g2, g3, g4, g5, g6⟩ := exo_get I.hok ea
  obtain ⟨bm, xc⟩ := x.cl
  obtain ⟨hh, g, dr, tk, os⟩ := s
  refine set_X (mA := fun _ => none) (ns := []) I.kIn xc x.sa hna g1 g2 g4 (.inl ⟨g3, fun _ => rfl⟩) (fun h' tk' dx S d1 _ => ?_) (fun n hn => absurd rfl hn) (by simp)
  have hdx : dx = hh.objs.size := d1 g3
  have hfr : H dx = none := I.hok.fresh (Nat.le_of_eq hdx.symm)
  have nea : dx ≠ a := fun z => by rw [z, ea] at hfr; cases hfr
  have nin : ∀ c o, hh.get? c = some o → c ≠ dx := fun c o q z => absurd (Heap.lt_size q) (by rw [z, hdx]; exact Nat.lt_irrefl _)
  have neA : ∀ c, H c = none → c ≠ a := fun c n z => by rw [z, ea] at n; cases n
  have neA' : ∀ c v, H c = some v → v ≠ Exo a C none b → c ≠ a := fun c v q n z => by rw [z, ea] at q; cases q; exact n rfl
  have neD : ∀ c v, H c = some v → c ≠ dx := fun c v q z => by rw [z, hfr] at q; cases q
  have same : ∀ c v, H c = some v → v ≠ Exo a C none b → upd (upd H a (Exo a C (some dx) b)) dx (Xdt dx [(f, y)]) c = some v := fun c v q n => by rw [upd_ne (neD c v q), upd_ne (neA' c v q n)]; exact q
  refine h _ dx hfr nea (I.un (t' := tk') ⟨fun c o q n _ _ => S.keep c o (neA c n) (nin c o q) q, fun c o q n _ _ => ⟨o.slots, S.keep c o (neA c n) (nin c o q) q⟩,
    fun c o q n _ => by rw [upd_ne (nin c o q), upd_ne (neA c n)]; exact n, fun c o q _ => ?_, fun c xs q => same c _ q (by intro z; cases z), fun c o v q => same c _ q (by intro z; cases z), fun c ps q => ⟨#[], by rw [same c _ q (by intro z; cases z)]; simp⟩⟩ fun c v q => ?_)
  · by_cases z : c = a
    · subst z; exact ⟨_, S.exc⟩
    · exact ⟨o, S.keep c o z (nin c o q) q⟩
  · by_cases z : c = dx
    · subst z
      rw [upd_same] at q; cases q
      refine xdt_ok ⟨_, S.ns, fun n => ?_, fun n hn => ?_⟩
      · show RelO (List.lookup n [(f, y)]) (if n = f then some u else none)
        by_cases z : n = f
        · subst z; rw [if_pos rfl, List.lookup_cons, beq_self_eq_true]; exact ry
        · rw [if_neg z, List.lookup_cons, beq_eq_false_iff_ne.mpr z]; exact True.intro
      · by_cases z : n = f
        · subst z; exact List.mem_cons_self
        · exact absurd (show (if n = f then some u else none) = none by rw [if_neg z]) hn
    · rw [upd_ne z] at q
      by_cases y' : c = a
      · subst y'
        rw [upd_same] at q; cases q
        exact exo_ok ⟨_, vs, S.exc, g2, rfl, g4, g5, g6⟩
      · rw [upd_ne y'] at q
        have hc := I.hok c v q
        refine hc.stay (fun p o hp r => S.keep p o ?_ (nin p o r) r) (fun p hp => same p _ hp (by intro z; cases z)) fun p xs hp => same p _ hp (by intro z; cases z)
        rcases hp with rfl | hp
        · exact y'
        · exact neA' p _ hp (by intro z; cases z)
theorem setx1_ok {dx : Addr} {fs : List (Str × V)} (I : Inv X pins σ H s) (ea : H a = some (Exo a C (some dx) b)) (ed : H dx = some (Xdt dx fs)) (hl : fs.length ≤ 900) (x : XAt X.K C) (hna : PySem.W.findIn X.K (.ref C) f = some none) (ry : RelV y u) (hda : dx ≠ a)
    (h : ∀ s', Inv X pins σ (upd H dx (Xdt dx (putF f y fs))) s' → Q () s') : wpAny (model X.prog X.w) A (setAttr (.ref a) f u) Q E s := by
  obtain ⟨oe, vs, g1, g2, g3, g4, g5, g6⟩ := exo_get I.hok ea
  obtain ⟨mA, n1, n2, n3⟩ := xdt_get I.hok ed
  obtain ⟨bm, xc⟩ := x.cl
  obtain ⟨hh, g, dr, tk, os⟩ := s
  refine set_X (mA := mA) (ns := fs.map (·.1)) I.kIn xc x.sa hna g1 g2 g4 (.inr ⟨dx, g3, hda, n1⟩) (fun h' tk' dy S _ d2 => ?_) n3 (by rw [List.length_map]; omega)
  obtain rfl : dy = dx := d2 dx g3
  refine h _ (I.write (t' := tk') (x := dy) (e := dy) (by rw [ed]; exact True.intro) (.inl rfl) (fun c o hc q => ?_) ?_ (xdt_ok ⟨_, S.ns, fun n => ?_, fun n hn => ?_⟩))
  · by_cases z : c = a
    · subst z
      rw [g1] at q; cases q
      rw [S.exc]
      obtain ⟨c1, c2, c3, c4⟩ := oe
      simp only at g3
      subst g3
      rfl
    · exact S.keep c o z hc q
  · obtain ⟨o, _, _, e, _⟩ := S.ns; exact ⟨o, e⟩
  · show RelO ((putF f y fs).lookup n) (if n = f then some u else mA n)
    rw [lookup_putF]
    by_cases z : n = f
    · rw [if_pos z, if_pos z]; exact ry
    · rw [if_neg z, if_neg z]; exact n2 n
  · by_cases z : n = f
    · rw [z]; exact (keys_putF f y fs).1
    · refine (keys_putF f y fs).2 n (n3 n fun w => hn ?_)
      show (if n = f then some u else mA n) = none
      rw [if_neg z]; exact w
end

noncomputable def sFx0 (K : PySem.W.Frag) (ta tv : TE) (f : Str) : TS := fun D σ H => tv σ H fun y H1 => ta σ H1 fun x H2 => ∃ a C b, x = .ref a ∧ H2 a = some (Exo a C none b) ∧ XAt K C ∧ PySem.W.findIn K (.ref C) f = some none ∧
  ∀ dx, H2 dx = none → dx ≠ a → D.nx σ (upd (upd H2 a (Exo a C (some dx) b)) dx (Xdt dx [(f, y)]))
noncomputable def sFx1 (K : PySem.W.Frag) (ta tv : TE) (f : Str) : TS := fun D σ H => tv σ H fun y H1 => ta σ H1 fun x H2 => ∃ a C b dx fs, x = .ref a ∧ H2 a = some (Exo a C (some dx) b) ∧ H2 dx = some (Xdt dx fs) ∧ fs.length ≤ 900 ∧ XAt K C ∧ PySem.W.findIn K (.ref C) f = some none ∧ dx ≠ a ∧
  D.nx σ (upd H2 dx (Xdt dx (putF f y fs)))
section
variable {X : Cx} {o e value : Expr} {es : List Expr} {f x : Str} {p pos pos' apos : Pos} {ta tv te : TE} {t : TA} {R : Addr} {E : XK}
theorem ps_fx0 (ha : PE X o ta) (hv : PE X value tv) (hs : swapsWith value (some (.Attribute o f pos')) pos.line X.env = pure false) : PS X (.Assign [.Attribute o f pos'] value pos) (sFx0 X.K ta tv f) := by
  intro pins s σ H D I h
  refine plainObj_wpAny_Assign_Attribute (thn (hv pins s σ H _ I h) fun u s1 ⟨y, H1, I1, ry, q⟩ => thn (ha pins s1 σ H1 _ I1 q) fun ov s2 zq1 => ?_) hs
  obtain ⟨z, H2, I2, rx, a, C, b, ex, ea, c, n, q2⟩ := zq1
  subst ex
  obtain rfl : ov = Value.ref a := rx
  exact setx0_ok I2 ea c n ry fun s3 dx h1 h2 I3 => ⟨σ, _, I3, q2 dx h1 h2⟩
theorem ps_fx1 (ha : PE X o ta) (hv : PE X value tv) (hs : swapsWith value (some (.Attribute o f pos')) pos.line X.env = pure false) : PS X (.Assign [.Attribute o f pos'] value pos) (sFx1 X.K ta tv f) := by
  intro pins s σ H D I h
  refine plainObj_wpAny_Assign_Attribute (thn (hv pins s σ H _ I h) fun u s1 ⟨y, H1, I1, ry, q⟩ => thn (ha pins s1 σ H1 _ I1 q) fun ov s2 zq2 => ?_) hs
  obtain ⟨z, H2, I2, rx, a, C, b, dx, fs, ex, ea, ed, l, c, n, da, q2⟩ := zq2
  subst ex
  obtain rfl : ov = Value.ref a := rx
  exact setx1_ok I2 ea ed l c n ry da fun s3 I3 => ⟨σ, _, I3, q2⟩

noncomputable def tInitX (K : PySem.W.Frag) (t : TA) : TE := fun σ H Q => t σ H fun vs H1 => ∃ a C d b rest, vs = .ref a :: rest ∧ rest.length ≤ 1000 ∧ H1 a = some (Exo a C d b) ∧ XAt K C ∧ Q .non H1
structure XBase (K : PySem.W.Frag) (R : Addr) : Prop where
  rd : PySem.W.readsIn K R (.type "type") = true
  at_ : PySem.W.findCls K (.ref R) (.type "type") "__init__" = some (.val (.builtin "ValueError.__init__"))
  ga : PySem.W.specialIn K (.ref R) "__getattribute__" = some (some (.builtin "type.__getattribute__"))
  hd : PySem.W.handedIn (.builtin "ValueError.__init__") = true
theorem initx_ok {pins : List (Addr × Obj)} {σ : St} {H : Hp} {s : Shared} {A : Around} {F : Value → Shared → Prop} {Q : Value → Shared → Prop} {a C : Addr} {d : Option Addr} {b : Bool} {rest : List Value} (I : Inv X pins σ H s) (ea : H a = some (Exo a C d b)) (x : XAt X.K C) (hl : rest.length ≤ 1000)
    (h : ∀ s', Inv X pins σ H s' → Q .none s') : wpAny (model X.prog X.w) A (call (.builtin "ValueError.__init__") (.ref a :: rest)) Q F s := by
  obtain ⟨oe, vs, g1, g2, g3, g4, g5, g6⟩ := exo_get I.hok ea
  obtain ⟨bm, xc⟩ := x.cl
  obtain ⟨hh, g, dr, tk, os⟩ := s
  refine wpAny_call (init_X I.kIn xc g1 g2 g4 g5 (by rw [sizeLine_eq]; omega) (h _ ?_))
  have I1 := I.kept (h' := hh.push (xtup rest)) (t' := tk) (fun b u q => Heap.get?_push_of_some _ q)
  have g1' := Heap.get?_push_of_some (h := hh) (xtup rest) g1
  have hd' := Obj.data_mapFields g4 (·.setIfInBounds 0 (Value.ref hh.objs.size))
  have e' := Heap.get?_update_self (Obj.mapFields (·.setIfInBounds 0 (Value.ref hh.objs.size))) g1' (Obj.isFreed_of_fields hd')
  have I2 := I1.write (t' := tk) (x := a) (e := a) (h' := (hh.push (xtup rest)).update a (Obj.mapFields (·.setIfInBounds 0 (Value.ref hh.objs.size)))) (o := Exo a C d b) (by rw [ea]; exact True.intro) (.inl rfl) (fun c o hc q => (Heap.get?_update_other _ _ (Ne.symm hc)).trans q) ⟨_, e'⟩
    (exo_ok ⟨_, _, e', (Obj.cls_mapFields _ _).trans g2, by
      rw [← g3]
      obtain ⟨c1, c2, c3, c4⟩ := oe
      cases c3 <;> rfl, hd', by rw [Array.size_setIfInBounds]; exact g5, fun z => by rw [Array.getElem?_setIfInBounds_ne (by decide)]; exact g6 z⟩)
  rwa [upd_idem ea] at I2
theorem pe_initX {pl : Sem Bool} (B : XBase X.K R) (hg : Gl X x) (hm : X.mg x = some (.ref R)) (ha : PA X (e :: es) t) (hdb : (x == ("__debug__" : Str)) = false := by decide)
    (hst : starEach (e :: es) X.env = (false, eval e X.env) :: starEach es X.env := by rfl) (hpl : (backTo pos (starEach es X.env)).any (·.1) = false := by rfl)
    (ht : eval (.Call (.Attribute (.Name x p) "__init__" apos) (e :: es) [] pos) X.env = (do
      let ov ← eval (.Name x p) X.env
      standAt apos.atName
      let (f, first) ← holding [ov] (getMethod ov "__init__" pl)
      callWith pos f first (backTo pos (starEach (e :: es) X.env)) (backToKw pos (keywordEach [] X.env))) := by rfl) :
    PE X (.Call (.Attribute (.Name x p) "__init__" apos) (e :: es) [] pos) (tInitX X.K t) := by
  intro pins s σ H Q I h
  refine PySem.W.methodCall_KW (pl := pl) (ld_glob I hg hm ?_ hdb) ht
  refine PySem.W.method_cls I.kIn B.ga (PySem.W.cls_value I.kIn B.rd B.at_ B.hd ?_)
  refine PyProof.Rows.callWith_builtin1 (thn (ha pos pins _ σ H _ (I.tok _) h) fun us s2 zq3 => ?_) hst hpl
  obtain ⟨vs, H2, I2, r, a, C, d, b, rest, ev, hl, ea, xa, q2⟩ := zq3
  subst ev
  cases r with
  | cons r1 r2 =>
    obtain rfl : _ = Value.ref a := r1
    exact initx_ok I2 ea xa (by rw [← r2.length]; exact hl) fun s3 I3 => ⟨.non, H2, I3, rfl, q2⟩

noncomputable def sRaise (K : PySem.W.Frag) (te : TE) (E : XK) : TS := fun D σ H => te σ H fun v H1 => ∃ a C d, v = .ref a ∧ H1 a = some (Exo a C d true) ∧ XAt K C ∧ E (.ref a) none (upd H1 a (Exo a C d false))
theorem ps_raiseX (hx : Raises X E) (hc : X.calm = true) (he : PE X e te) : PS X (.Raise (some e) none pos) (sRaise X.K te E) := by
  intro pins s σ H D I h
  rw [arm_exec_Raise]
  refine wpAny_bind (wpAny_standAt ?_)
  unfold raiseStmt
  refine wpAny_bind (wpAny_bind (thn (he pins s σ H _ I h) fun v s1 ⟨y, H1, I1, ry, a, C, d, ey, ea, xa, q⟩ => wpAny_bind (wpAny_standAt (wpAny_pure ?_))))
  subst ey
  obtain rfl : v = Value.ref a := ry
  have fin := hx pins σ H1 s1 a C d I1 ea q
  obtain ⟨⟨oc, od, odt, osl⟩, vs, g1, g2, g3, g4, g5, g6⟩ := exo_get I1.hok ea
  simp only at g2 g3 g4
  subst g2 g3 g4
  obtain ⟨bm, xc⟩ := xa.cl
  obtain ⟨T, nm, q, N, bs, sn, sub, ab, col, dd, k0, k1, k2, k3, k5, hC⟩ := xc.at I1.kIn
  have hcB : (Value.ref C :: bm).contains (.type "BaseException") = true := by rw [List.contains_cons, T.hasType PySem.F.excBase_ValueError.hasBase, Bool.or_true]
  have hh := I1.ok.hd hc
  obtain ⟨hp, g, dr, tk, os⟩ := s1
  repeat (first | with_reducible refine wpAny_loadPart_at g1 ?_ | with_reducible refine wpAny_loadPart_at hC ?_ | (with_reducible refine wpAny_isSubtype_exc hC ?_; rw [hcB]) | wp_step)
  rw [g6 rfl]
  refine wpAny_pure ?_
  rw [if_neg (by decide)]
  exact wpAny_pure (wpAny_raiseNew_none hh fin)
end
end L2
set_option Elab.async false
set_option linter.all false
set_option maxRecDepth 100000
namespace L2
open PySem PySem.Spec PyProof.Rows
theorem XCl.mro {K : PySem.W.Frag} {C : Addr} {bm : List Value} {h : Heap} (x : XCl K C bm) (X : K.In h) {T : String} {b : Bool} (hb : bmV.contains (.type T) = b) : PySem.W.mroIn K C (.type T) = some b := by
  have T' := PySem.W.tail_of_in X x.tl
  obtain ⟨dd, cd, k0, k1, k2, k3, k5, hl, hm, hd, hh⟩ := x.obj
  unfold PySem.W.mroIn PySem.W.clsIn
  rw [hl, Option.bind_some, hm, if_neg (by simp), List.contains_cons, T'.hasType hb]
  rfl
theorem XCl.cls {K : PySem.W.Frag} {C : Addr} {bm : List Value} (x : XCl K C bm) : ∃ cd, PySem.W.clsIn K C = some cd ∧ cd.hasDict = true := by
  obtain ⟨dd, cd, k0, k1, k2, k3, k5, hl, hm, hd, hh⟩ := x.obj
  exact ⟨cd, by unfold PySem.W.clsIn; rw [hl], hh⟩
section
variable {prog : Program} {w : World} {A : Around} {E : Value → Shared → Prop} {s : Shared} {K : PySem.W.Frag} {C a : Addr} {bm : List Value} {oe : Obj} {od : Option Obj} {name : Str} {fill expr : Bool} {tk : Tok}
theorem byX_open {Q : Value → Shared → Prop} (X : K.In s.heap) (I : PySem.W.InstAt s.heap a oe C od) (x : XAt K C)
    (h : wpAny (model prog w) A.in1 (Builtin.«object.__getattribute__» ⟨[.ref a, .str name tk], []⟩) (fun fin s' => match fin with | .done (.ret v) => wpAny (model prog w) A (handedOut v) Q E s' | _ => False) (fun _ _ => False) s) :
    wpAny (model prog w) A (getAttrBy (.ref a) (.str name tk) fill expr) Q E s := by
  obtain ⟨bm, xc⟩ := x.cl
  have hmB := xc.mro X (T := "BaseException") (b := true) PySem.F.excBase_ValueError.hasBase
  have L0 := I.type (M := model prog w)
  unfold getAttrBy
  refine wpAny_holding (wpAny_bind (L0.here (wpAny_bind ((PySem.W.looks_findIn X x.ga).here ?_))))
  dsimp only
  rw [show (onTheHeap (Value.ref C) && Value.builtin "BaseException.__getattribute__" == Value.builtin "object.__getattribute__") = false from by rw [show (Value.builtin "BaseException.__getattribute__" == Value.builtin "object.__getattribute__") = false from by decide +kernel, Bool.and_false], if_neg (by decide)]
  unfold getAttrByItsOwn
  refine wpAny_bind ((PySem.W.looks_hook (mc := .ref C) (r := none) X (by rw [if_pos (show onTheHeap (Value.ref C) = true from rfl)]; exact x.gn)).here (wpAny_bind (wpAny_attempt (wpAny_holding ?_))))
  unfold callGetattribute
  rw [show (expr && onTheHeap (Value.builtin "BaseException.__getattribute__")) = false from Bool.and_false _, if_neg (by decide)]
  unfold boundAndCalled
  rw [PySem.F.attr_ValueError.ga.bind]
  refine wpAny_bind (wpAny_pure ?_)
  show wpAny _ _ (call (.builtin "BaseException.__getattribute__") [.ref a, .str name tk]) _ _ _
  refine wpAny_call (codeAny_call_builtin PySem.F.attr_ValueError.ga.plain PySem.F.entry_bexc_ga ?_)
  have hk : builtinKind "BaseException.__getattribute__" = some .slot := by decide +kernel
  have hsp : splitId "BaseException.__getattribute__" = some ("BaseException", "__getattribute__") := by decide +kernel
  have LI : PySem.W.Looks (model prog w) s.heap (isInstance (.ref a) (.type "BaseException")) true := L0.andThen (PySem.W.looks_mroIn X hmB)
  refine @PySem.W.check_slot (model prog w) _ _ s "BaseException.__getattribute__" "BaseException" "__getattribute__" (.ref a) [.str name tk] [] _ hk hsp LI (PySem.F.args_bexc_ga (.ref a) (.str name tk)) ?_
  refine wpAny_mono h (fun fin s' z => ?_) fun _ _ z => z.elim
  rcases fin with (_ | _ | _ | _) | _ <;> first | exact z | exact z.elim
theorem ga_value {v : Value} {Q : Fin → Shared → Prop} (X : K.In s.heap) (I : PySem.W.InstAt s.heap a oe C od) (hf : PySem.W.findObj K C od name = some (.value v)) (h : Q (.done (.ret v)) s) :
    wpAny (model prog w) A (Builtin.«object.__getattribute__» ⟨[.ref a, .str name tk], []⟩) Q E s := by
  have L0 := I.type (M := model prog w)
  have L1 := PySem.W.looks_find (M := model prog w) X I hf
  refine wpAny_bind (wpAny_pure (wpAny_bind (wpAny_pure (wpAny_bind (L0.here (wpAny_bind (L1.here ?_)))))))
  exact wpAny_pure h
theorem ga_bind {g b : Value} {Q : Fin → Shared → Prop} (X : K.In s.heap) (I : PySem.W.InstAt s.heap a oe C od) (hf : PySem.W.findObj K C od name = some (.bind g b))
    (h : wpAny (model prog w) A (call g [b, .ref a, .ref C]) (fun v s' => Q (.done (.ret v)) s') E s) :
    wpAny (model prog w) A (Builtin.«object.__getattribute__» ⟨[.ref a, .str name tk], []⟩) Q E s := by
  have L0 := I.type (M := model prog w)
  have L1 := PySem.W.looks_find (M := model prog w) X I hf
  refine wpAny_bind (wpAny_pure (wpAny_bind (wpAny_pure (wpAny_bind (L0.here (wpAny_bind (L1.here ?_)))))))
  show wpAny _ _ (holding [b] (call g [b, .ref a, .ref C]) >>= ret) _ _ _
  exact wpAny_bind (wpAny_holding (wpAny_mono h (fun v s' z => wpAny_pure z) fun _ _ z => z))
end

theorem XCl.hasDict {K : PySem.W.Frag} {C : Addr} {bm : List Value} (x : XCl K C bm) : PySem.W.hasDictIn K C = true := by
  obtain ⟨cd, h1, h2⟩ := x.cls
  unfold PySem.W.hasDictIn
  rw [h1]
  exact h2
structure XCa (K : PySem.W.Frag) (C : Addr) : Prop where
  at_ : XAt K C
  ca : PySem.W.findIn K (.ref C) "__class__" = some (some (.builtin "object.__class__"))
  gt : PySem.W.specialIn K (.builtin "object.__class__") "__get__" = some (some (.builtin "getset_descriptor.__get__"))
  tk : PySem.W.takesIn K (.builtin "object.__class__") = some true
theorem kitx_exc {K : PySem.W.Frag} {C a : Addr} (x : XCa K C) : PySem.W.KitX K (.ref a) (.ref C) (fun h => ∃ oe od, PySem.W.InstAt h a oe C (some od)) where
  ty := fun _ _ _ zq1 => (by obtain ⟨_, _, I⟩ := zq1; exact I.type)
  it := fun _ _ X _ => by
    obtain ⟨bm, xc⟩ := x.at_.cl
    obtain ⟨dd, cd, k0, k1, k2, k3, k5, ho, _⟩ := xc.obj
    intro A' Q' E' s' k q
    unfold isType loadHead
    exact wpAny_bind (wpAny_loadPart (k _ _ (X _ _ ho)) (wpAny_pure q))
  ne := fun h tp dd its n sl X htp => by
    obtain ⟨bm, xc⟩ := x.at_.cl
    obtain ⟨dd, cd, k0, k1, k2, k3, k5, ho, _⟩ := xc.obj
    refine Bool.eq_false_iff.mpr fun q => ?_
    have e : C = tp := Value.ref.inj (beq_iff_eq.mp q)
    subst e
    have z := congrArg Obj.data (Option.some.inj ((X _ _ ho).symm.trans htp))
    cases z
  ca := fun {prog w A E Q s} X ⟨oe, od, I⟩ k => by
    obtain ⟨bm, xc⟩ := x.at_.cl
    obtain ⟨cd, hc, _⟩ := xc.cls
    have hf : PySem.W.findObj K C (some od) "__class__" = some (.bind (.builtin "getset_descriptor.__get__") (.builtin "object.__class__")) := PySem.W.findObj_data (by rw [hc]; rfl) x.ca x.gt x.tk
    refine wpAny_bind (wpAny_mkText ?_)
    unfold getAttrBy?
    refine wpAny_bind (wpAny_attempt ?_)
    refine byX_open (s := { s with toks := s.toks + 1 }) X I x.at_ (ga_bind (s := { s with toks := s.toks + 1 }) X I hf (wpAny_call ?_))
    exact PySem.W.class_get (s := { s with toks := s.toks + 1 }) (ox := oe) (od := some od) X I (xc.mro X PySem.F.store_ValueError.hasOwner) (PySem.W.handed_on rfl (wpAny_pure k))

section
variable {X : Cx} {pins : List (Addr × Obj)} {σ : St} {H : Hp} {s : Shared} {A : Around} {E : Value → Shared → Prop} {a C dx : Addr} {b : Bool} {fs : List (Str × V)} {f : Str} {v : V}
theorem exc_inst (I : Inv X pins σ H s) (ea : H a = some (Exo a C (some dx) b)) (ed : H dx = some (Xdt dx fs)) : ∃ oe od, PySem.W.InstAt s.heap a oe C (some od) ∧ ∃ mA : Str → Option Value, (∀ n, PySem.W.lookIn n od = some (mA n)) ∧ ∀ n, RelO (fs.lookup n) (mA n) := by
  obtain ⟨oe, vs, g1, g2, g3, g4, g5, g6⟩ := exo_get I.hok ea
  obtain ⟨mA, n1, n2, n3⟩ := xdt_get I.hok ed
  obtain ⟨od, ho, hl⟩ := lookIn_ns n1
  exact ⟨oe, od, ⟨g1, g2, by unfold PySem.W.notCls; rw [g4], by rw [g3]; exact ho⟩, mA, hl, n2⟩
theorem getx_ok {ex : Bool} {Q : Value → Shared → Prop} (I : Inv X pins σ H s) (ea : H a = some (Exo a C (some dx) b)) (ed : H dx = some (Xdt dx fs)) (x : XAt X.K C) (hna : PySem.W.findIn X.K (.ref C) f = some none) (l : fs.lookup f = some v)
    (h : ∀ u s', Inv X pins σ H s' → RelV v u → Q u s') : wpAny (model X.prog X.w) A (getAttr (.ref a) f ex) Q E s := by
  obtain ⟨oe, od, J, mA, hl, r⟩ := exc_inst I ea ed
  obtain ⟨bm, xc⟩ := x.cl
  obtain ⟨u, hu, ru⟩ := RelO.some_of (v := v) (o := mA f) (by rw [← l]; exact r f)
  have hf : PySem.W.findObj X.K C (some od) f = some (.value u) := PySem.W.findObj_own xc.hasDict hna rfl (by rw [hl, hu])
  refine wpAny_bind (wpAny_mkText ?_)
  refine byX_open (s := { s with toks := s.toks + 1 }) I.kIn J x (ga_value (s := { s with toks := s.toks + 1 }) I.kIn J hf ?_)
  exact PySem.W.handed_on (handed_of ru) (h u _ (I.tok _) ru)
end

noncomputable def tFx (K : PySem.W.Frag) (ta : TE) (f : Str) : TE := fun σ H Q => ta σ H fun x H1 => ∃ a C b dx fs v, x = .ref a ∧ H1 a = some (Exo a C (some dx) b) ∧ H1 dx = some (Xdt dx fs) ∧ XAt K C ∧ PySem.W.findIn K (.ref C) f = some none ∧ fs.lookup f = some v ∧ Q v H1
inductive rIsx (K : PySem.W.Frag) (xs : List V) (H : Hp) (Q : VK) : Prop
  | mk : ∀ a C b dx fs c t r, (xs = [.ref a, c]) → (H a = some (Exo a C (some dx) b)) → (H dx = some (Xdt dx fs)) → (XCa K C) → ((∀ u, RelV c u → u = t)) → (PySem.W.kitOne K (.ref C) t = some r) → (Q (.bl r) H) → rIsx K xs H Q
section
variable {X : Cx} {e : Expr} {f : Str} {pos : Pos} {ta : TE}
theorem pe_fx (he : PE X e ta) (hb : attributeBase e f X.env (eval e X.env) = eval e X.env) : PE X (.Attribute e f pos) (tFx X.K ta f) := by
  intro pins s σ H Q I h
  refine attr_of hb (thn (he pins s σ H _ I h) fun u s1 zq2 => ?_)
  obtain ⟨x, H1, I1, rx, a, C, b, dx, fs, v, ex, ea, ed, c, n, l, q⟩ := zq2
  subst ex
  obtain rfl : u = Value.ref a := rx
  exact getx_ok I1 ea ed c n l fun u' s2 I2 ru => ⟨v, H1, I2, ru, q⟩
theorem call_isx : CallR X (.builtin "isinstance") (rIsx X.K) := by
  intro pins s σ H xs us Q I r h
  obtain ⟨a, C, b, dx, fs, c, t, rr, rfl, ea, ed, x, hc, e, q⟩ := h
  obtain ⟨u, u2, rfl, rx, r2⟩ := vals2 r
  obtain rfl := hc _ r2
  obtain rfl : u = Value.ref a := rx
  obtain ⟨oe, od, J, _⟩ := exc_inst I ea ed
  exact PySem.W.kia_one (kitx_exc x) I.kIn ⟨oe, _, J⟩ e (fun z => nomatch z) fun tk => ⟨.bl rr, H, I.tok _, rfl, q⟩
inductive rIst (K : PySem.W.Frag) (xs : List V) (H : Hp) (Q : VK) : Prop
  | mk : ∀ a C b dx fs tp cs ts r, (xs = [.ref a, .ref tp]) → (H a = some (Exo a C (some dx) b)) → (H dx = some (Xdt dx fs)) → (XCa K C) → (H tp = some (.tup cs)) → ((∀ us, Vals cs us → us = ts)) → (PySem.W.kitAny K (.ref C) ts = some r) → (Q (.bl r) H) → rIst K xs H Q
theorem call_ist : CallR X (.builtin "isinstance") (rIst X.K) := by
  intro pins s σ H xs us Q I r h
  obtain ⟨a, C, b, dx, fs, tp, cs, ts, rr, rfl, ea, ed, x, et, hc, e, q⟩ := h
  obtain ⟨u, u2, rfl, rx, r2⟩ := vals2 r
  obtain rfl : u2 = Value.ref tp := r2
  obtain rfl : u = Value.ref a := rx
  obtain ⟨oe, od, J, _⟩ := exc_inst I ea ed
  obtain ⟨_, its, rv, ⟨⟨oc, dd, odt, sl⟩, h1, h2, n, h3⟩, _⟩ := (show ObjOk X.prog X.w H s.heap tp (.tup cs) from I.hok tp _ et)
  obtain rfl := hc _ rv
  simp only at h2 h3
  subst h2 h3
  exact PySem.W.kia_tup (kitx_exc x) I.kIn ⟨oe, _, J⟩ h1 e (fun z => nomatch z) fun tk => ⟨.bl rr, H, I.tok _, rfl, q⟩
end
end L2
set_option Elab.async false
set_option linter.all false
set_option maxRecDepth 100000
namespace L2
open PySem PySem.Spec PyProof.Rows
noncomputable abbrev Hd (X : Cx) (v : Value) : Cx := { X with A := X.A.mark (some v), calm := false, xe := fun _ _ => False }
theorem Inv.hold {X : Cx} {pins : List (Addr × Obj)} {σ : St} {H : Hp} {s : Shared} (I : Inv X pins σ H s) (v : Value) : Inv (Hd X v) pins σ H s :=
  ⟨⟨I.ok.mod, I.ok.kind, I.ok.glob, I.ok.blt, I.ok.above, I.ok.inj, I.ok.has, I.ok.cab, (fun z => by cases z), I.ok.frames, I.ok.stk, I.ok.exf, I.ok.bs, I.ok.bsz, I.ok.noex, I.ok.exfs, I.ok.funs, I.ok.frf⟩, I.os, I.bare, I.base, I.loc, I.cell, I.free, I.freeC, I.pin, I.hok, I.len⟩
theorem Inv.offHold {X : Cx} {pins : List (Addr × Obj)} {σ : St} {H : Hp} {s : Shared} {v : Value} (ok : X.Ok) (I : Inv (Hd X v) pins σ H s) : Inv X pins σ H s :=
  ⟨ok, I.os, I.bare, I.base, I.loc, I.cell, I.free, I.freeC, I.pin, I.hok, I.len⟩

noncomputable def XE (X : Cx) (pins : List (Addr × Obj)) (σ : St) (E : XK) (e : Value) (s' : Shared) : Prop :=
  ∃ a C d H', e = .ref a ∧ Inv X pins σ H' s' ∧ H' a = some (Exo a C d false) ∧ Flt s'.heap a .none ∧ E (.ref a) none H'
noncomputable def PEE (X : Cx) (E : XK) (e : Expr) (t : TE) : Prop :=
  ∀ (pins : List (Addr × Obj)) (s : Shared) (σ : St) (H : Hp) (Q : VK), Inv X pins σ H s → t σ H Q → wpAny (model X.prog X.w) X.A (eval e X.env) (EP X pins σ Q) (XE X pins σ E) s

section
variable {X : Cx} {pins : List (Addr × Obj)} {σ : St} {H : Hp} {s : Shared}
theorem XE.of {E : XK} {e : Value} {s' : Shared} (I : Inv X pins σ H s) (h : CXe X.prog X.w X.stack H s E e s') : XE X pins σ E e s' := by
  obtain ⟨a, C, d, H', he, os, bare, un, hok, ha, hf, hE⟩ := h
  exact ⟨a, C, d, H', he, I.call' os un hok bare (fun b z => absurd z (by simp)), ha, hf, hE⟩
theorem gone_ok {M : Model} {A : Around} {E : Value → Shared → Prop} {i : Nat} {x : Str} {pos : Pos} {Q : Unit → Shared → Prop} (I : Inv X pins σ H s) (hN : X.N.Nodup) (hi : X.N[i]? = some x) (hx : X.env.scope.names.lookup x = some .local)
    (h : ∀ s', Inv X pins (σ.set i none) H s' → Q () s') : wpAny M A (do bindName X.env x .none; unbindBehindTheSuite X.env x pos) Q E s := by
  have hcls : (X.env.scope.kind == .class || (X.env.scope.kind == .module && X.env.locals != X.env.globals)) = false := by rw [I.ok.kind]; rfl
  have hiσ : i < σ.length := by rw [I.len]; exact (List.getElem?_eq_some_iff.mp hi).1
  have hk : X.env.kindOf x = some .local := hx
  refine wpAny_bind (wpAny_bindName (store_ok (v := .non) (u := .none) I hN hi (.inl hx) rfl (fun s₁ J => ?_) (.inr hx)))
  obtain ⟨m, hn, hl⟩ := id J.loc
  have hm : (m x).isSome = true := by
    obtain ⟨u, _, q⟩ := hl i x .non hi (by rw [List.getElem?_set_self hiσ]) (.inl hx)
    rcases q with ⟨_, e⟩ | ⟨e, _⟩
    · rw [e]; rfl
    · rcases e with e | e <;> (rw [hk] at e; cases e)
  unfold unbindBehindTheSuite
  refine wpAny_onRaise ?_
  unfold unbindName
  refine wpAny_bind (wpAny_point (wpAny_bind ?_))
  unfold deleteName
  simp only [hk, hcls]
  rw [if_neg (by decide)]
  refine wpAny_bind (wpAny_nsDel_keeps hn fun h₂ v hn₂ hs₂ => ?_)
  simp only [hm, if_true, Option.isSome_some, Bool.not_true, Bool.false_eq_true, if_false]
  refine wpAny_pure (wpAny_point (h _ ?_))
  have I := J
  have cne := I.cne
  obtain ⟨oL, _, _, hoL, _⟩ := id hn
  have ne : ∀ b o, X.s₀.heap.get? b = some o → b ≠ X.env.locals := fun b o e => Nat.ne_of_lt (Nat.lt_of_lt_of_le (Heap.lt_size e) I.ok.above)
  refine ⟨I.ok, I.os, I.bare, ⟨fun b o e n hb hx => (hs₂.2 b (ne b o e)).trans (I.base.keep b o e n hb hx), fun b o e n hb hx => ?_, I.base.free, fun b o e hx => ?_, I.base.tups, I.base.frzs, I.base.tbls⟩, ⟨_, hn₂, fun j y v' e1 e2 e3 => ?_⟩, fun y c e => ?_, I.free, I.freeC, fun p hp => ?_, fun b ob e => ?_, by simpa using I.len⟩
  · obtain ⟨sl, e1⟩ := I.base.slot b o e n hb hx
    exact ⟨sl, (hs₂.2 b (ne b o e)).trans e1⟩
  · obtain ⟨o', e1⟩ := I.base.there b o e hx
    exact ⟨o', (hs₂.2 b (ne b o e)).trans e1⟩
  · by_cases hj : j = i
    · subst hj
      rw [List.getElem?_set_self (by exact hiσ)] at e2
      cases e2
    · rw [List.getElem?_set_ne (Ne.symm hj)] at e2
      obtain ⟨u', r', q⟩ := hl j y v' e1 (by rw [List.getElem?_set_ne (Ne.symm hj)]; exact e2) e3
      refine ⟨u', r', ?_⟩
      rcases q with ⟨k, e⟩ | ⟨k, c, e, z⟩
      · refine .inl ⟨k, ?_⟩
        have : y ≠ x := fun e => hj (nodup_ix hN e1 (e ▸ hi))
        simp [this, e]
      · exact .inr ⟨k, c, e, z.sameBut hs₂ (cne y c e)⟩
  · obtain ⟨w', z⟩ := I.cell y c e
    exact ⟨w', z.sameBut hs₂ (cne y c e)⟩
  · obtain ⟨e, n, ne, nf, d⟩ := I.pin p hp
    exact ⟨(hs₂.2 p.1 ne).trans e, n, ne, nf, d⟩
  · refine (I.hok b ob e).stay (fun c w' hc q => (hs₂.2 c ?_).trans q) (fun _ q => q) fun _ _ q => q
    rintro rfl
    rcases hc with rfl | hc
    · rw [I.free] at e; cases e
    · rw [I.free] at hc; cases hc
end

section
variable {M : Model} {A : Around} {E : Value → Shared → Prop} {s : Shared}
theorem leaveX' {base : Heap} {env : Env} {outer : List Env} {L e : Addr} {oe : Obj} {vs : Array Value} {Q : Unit → Shared → Prop}
    (hfr : A.frames = some (env :: outer)) (hl : s.heap.FunFrames base (env :: outer)) (hf : env.frame = some L)
    (he : s.heap.get? e = some oe) (hd : oe.data = .fields vs) (h1 : vs[1]? = some .none ∨ Flt s.heap e .none)
    (h : ∀ h', Nts (frs (env :: outer)) e .none s.heap h' → Q () { s with heap := h' }) : wpAny M A (noteFrame (.ref e) env) (fun _ s₂ => wpAny M A (setFlight (.ref e) none) Q E s₂) E s := by
  refine noteX hfr hl hf he hd h1 fun h₁ N => ?_
  obtain ⟨k1, k2, k3, T, hT, k4⟩ := N
  refine flightX (s := { s with heap := h₁ }) k4 fun h₂ f1 f2 f3 _ => h h₂ ⟨fun b o hb hbe q => f2 b o (fun z => ?_) (k1 b o hb hbe q), fun b o hb q => ?_, fun oe vs q qd => ?_, T, hT, f1⟩
  · exact absurd (Nat.lt_of_lt_of_le (Heap.lt_size q) (z ▸ hT)) (Nat.lt_irrefl _)
  · obtain ⟨sl, q'⟩ := k2 b o hb q
    exact ⟨sl, f2 b _ (fun z => absurd (Nat.lt_of_lt_of_le (Heap.lt_size q) (z ▸ hT)) (Nat.lt_irrefl _)) q'⟩
  · obtain ⟨oe', vs', q1, q2⟩ := k3 oe vs q qd
    exact ⟨oe', vs', f2 e _ (fun z => absurd (Nat.lt_of_lt_of_le (Heap.lt_size q) (z ▸ hT)) (Nat.lt_irrefl _)) q1, q2⟩
theorem matchX {K : PySem.W.Frag} {C R e : Addr} {bm bm' : List Value} {oe : Obj} {h : Heap} {g : Array GenState} {d : Drawn} {t : Nat} {os : OsState} {Q : Bool → Shared → Prop} (X : K.In h) (xC : XCl K C bm) (xR : XCl K R bm') (he : h.get? e = some oe) (hcls : oe.cls = .ref C)
    (hq : Q ((Value.ref C :: bm).contains (.ref R)) ⟨h, g, d, t, os⟩) : wpAny M A (excMatches (.ref e) (.ref R)) Q E ⟨h, g, d, t, os⟩ := by
  obtain ⟨T, nm, q, N, bs, sn, sub, ab, col, dd, k0, k1, k2, k3, k5, hC⟩ := xC.at X
  obtain ⟨T', nm', q', N', bs', sn', sub', ab', col', dd', k0', k1', k2', k3', k5', hR⟩ := xR.at X
  have hcB : (Value.ref R :: bm').contains (.type "BaseException") = true := by rw [List.contains_cons, T'.hasType PySem.F.excBase_ValueError.hasBase, Bool.or_true]
  have f := tc_notTuple
  generalize hb : (Value.ref C :: bm).contains (.ref R) = b at hq
  unfold excMatches
  repeat (first | (with_reducible refine wpAny_loadPart_at he ?_; rw [hcls]) | with_reducible refine wpAny_loadPart_at hR ?_ | (with_reducible refine wpAny_isSubtype_exc hR ?_; rw [hcB]) | (with_reducible refine wpAny_isSubtype_exc hC ?_; rw [hb]) | wp_step)
  cases b <;> (wp_walk; exact hq)
end
end L2
set_option Elab.async false
set_option linter.all false
set_option maxRecDepth 100000
namespace L2
open PySem PySem.Spec PyProof.Rows
structure FncX (P : Program) (w : World) (K : PySem.W.Frag) (mg : Str → Option Value) (base : Heap) (x : Str) (ps : List Str) (k : Nat) (sp : Sp) : Prop where
  ex : ∃ (f : Addr) (fd : FuncData), mg x = some (.ref f) ∧ PySem.W.keepIn K (.ref f) = true ∧ Binds K fd ps [] ∧ FnOk P w K mg base (CXe P w) k f fd ps sp
theorem Df.okX {P : Program} {w : World} {K : PySem.W.Frag} {mg : Str → Option Value} {base : Heap} {x : Str} {st : Stmt} {N ps : List Str} {k : Nat} {sp : Sp} (D : Df K mg x st) (S : FnScope N ps (defScope st))
    (hb : ∀ (kV doc pm : Value) (an : Option Addr) (cdv ct : Value) (us : List Value), us.length = ps.length → bindArgs (PySem.W.fnOf x x (defArgs st) (defBody st) (defScope st) .none kV doc pm an cdv ct) ⟨us, []⟩ = pure (ps.zip us))
    (len : ∀ vs H Q E, sp vs H Q E → vs.length = ps.length)
    (hbody : ∀ (f : Addr) (cdv : Value) (A : Around) (outer : List Env) (s : Shared) (H : Hp) (vs : List V) (Q : VK) (E : XK), Room k (A.deeper (envOfC x (defScope st) s.heap.objs.size f cdv)) → sp vs H Q E →
      ∃ t, PSs (cxOf (CXe P w) P w K mg base N x (defScope st) f cdv A outer s H E) (defBody st) t ∧ t { nx := fun _ H' => Q .non H', rt := Q } (start N vs) H) : FncX P w K mg base x ps (k + 1) sp := by
  obtain ⟨f, fd, hm, F⟩ := D.ex
  refine ⟨f, fd, hm, F.kp, F.binds hb, ?_⟩
  obtain ⟨oc, od, kV, doc, pm, an, cdv, ct, osl, rfl, lk, hcd⟩ := F.ex
  exact fn_of lk hcd S len fun A outer s H vs Q E hr hsp => hbody f cdv A outer s H vs Q E hr hsp

section
variable {X : Cx} {E : XK} {x : Str} {ps : List Str} {k j : Nat} {sp : Sp} {e a b : Expr} {es : List Expr} {t : TA} {te tb : TE} {tt : TT} {p pos pos' : Pos}
theorem pe_fnX (F : FncX X.prog X.w X.K X.mg X.base x ps j sp) (hr : Room k X.A) (hj : j ≤ k) (hx : Passes (CXe X.prog X.w) X E) (hg : Gl X x) (ha : PA X (e :: es) t)
    (hdb : (x == ("__debug__" : Str)) = false := by decide) (he : starEach (e :: es) X.env = (false, eval e X.env) :: starEach es X.env := by rfl) (hpl : (backTo pos (starEach es X.env)).any (·.1) = false := by rfl) :
    PE X (.Call (.Name x p) (e :: es) [] pos) (tCall sp [] E t) := by
  obtain ⟨f, fd, hm, hk, hb, F⟩ := F.ex
  exact pe_call F (hr.mono hj) hg hm hk hb .nil hx ha hdb he hpl
theorem pee_fn (F : FncX X.prog X.w X.K X.mg X.base x ps j sp) (hr : Room k X.A) (hj : j ≤ k) (hg : Gl X x) (ha : PA X.nox (e :: es) t)
    (hdb : (x == ("__debug__" : Str)) = false := by decide) (he : starEach (e :: es) X.env = (false, eval e X.env) :: starEach es X.env := by rfl) (hpl : (backTo pos (starEach es X.env)).any (·.1) = false := by rfl) :
    PEE X E (.Call (.Name x p) (e :: es) [] pos) (tCall sp [] E t) := by
  obtain ⟨f, fd, hm, hk, hb, F⟩ := F.ex
  intro pins s σ H Q I h
  refine wpAny_Call_Name_kw (ld_glob I hg hm ?_ hdb)
  refine PySem.W.callWith_K (h₀ := X.base) I.ok.mod.kin hk (wpAny_mono (ha pos pins s σ H _ (I.wish _) h) (fun us s1 ⟨vs, H1, I0, r, q⟩ => ⟨I0.kIn, ?_⟩) fun _ _ z => False.elim z) he hpl
  have I1 : Inv X pins σ H1 s1 := I0.unwish
  have r2 : Vals (vs ++ []) (us ++ []) := r.append .nil
  have hl : (us ++ []).length = ps.length := by rw [← r2.length]; exact F.len _ _ _ _ q
  refine wpAny_call (codeAny_mono ((F.mono hj).run X.A X.stack s1 H1 ⟨us, []⟩ (us ++ []) (vs ++ []) Q E hr I1.env0 (hb s1 us I1.kIn hl) r2 q) fun r s' hq => ?_)
  cases r with
  | error e => exact XE.of I1 hq
  | ok fl =>
    cases fl with
    | ret u => exact I1.after hq
    | next => exact False.elim hq
    | brk => exact False.elim hq
    | cont => exact False.elim hq
noncomputable def PSE (X : Cx) (E : XK) (st : List Stmt) (t : TS) : Prop :=
  ∀ (pins : List (Addr × Obj)) (s : Shared) (σ : St) (H : Hp) (D : Ends), Inv X pins σ H s → t D σ H → wpAny (model X.prog X.w) X.A (execs st X.env) (SP X pins D) (XE X pins σ E) s
theorem pse_set {i : Nat} (hN : X.N.Nodup) (hi : X.N[i]? = some x) (hx : Loc X.env.scope x) (he : PEE X E e te) (hs : swapsWith e (some (.Name x pos')) pos.line X.env = pure false := by rfl) (hf : X.fn x = true ∨ X.env.scope.names.lookup x = some .local := by first | exact .inl rfl | exact .inr rfl | assumption) :
    PSE X E [.Assign [.Name x pos'] e pos] (tAsg te (gName i)) := by
  intro pins s σ H D I h
  refine wpAny_execs_cons (wpAny_Assign_Name (thn (he pins s σ H _ I h) fun v s1 zq1 => ?_) hs)
  obtain ⟨y, H1, I1, r1, q1⟩ := zq1
  exact store_ok I1 hN hi hx r1 (fun s2 I2 => wpAny_execs_nil ⟨_, H1, I2, q1⟩) hf

noncomputable def Ends.gone (D : Ends) (i : Nat) : Ends := { nx := fun σ H => D.nx (σ.set i none) H, rt := D.rt, bk := fun σ H => D.bk (σ.set i none) H, ct := fun σ H => D.ct (σ.set i none) H }
noncomputable def sTry (K : PySem.W.Frag) (R : Addr) (i : Nat) (tb : XK → TS) (ts : TS) : TS := fun D σ H =>
  tb (fun v _ H' => ∃ a C d bm, v = .ref a ∧ H' a = some (Exo a C d false) ∧ XCl K C bm ∧ (Value.ref C :: bm).contains (.ref R) = true ∧ ts (D.gone i) (σ.set i (some (.ref a))) H') D σ H
set_option maxHeartbeats 800000 in
theorem ps_try {n r : Str} {i : Nat} {R : Addr} {bmR : List Value} {body suite : List Stmt} {b₀ : Stmt} {np hpos : Pos} {tb : XK → TS} {ts : TS} (hst : X.stack = X.env :: X.outer) (hfr : X.env.frame = some X.env.locals) (hN : X.N.Nodup) (hi : X.N[i]? = some n) (hloc : X.env.scope.names.lookup n = some .local)
    (hg : Gl X r) (hm : X.mg r = some (.ref R)) (xR : XCl X.K R bmR) (hb : ∀ E, PSE X E body (tb E)) (hs : ∀ v, PSs (Hd X v) (b₀ :: suite) ts) (hdb : (r == ("__debug__" : Str)) = false := by decide) :
    PS X (.Try body [.ExceptHandler (some (.Name r np)) (some n) (b₀ :: suite) hpos] [] [] pos) (sTry X.K R i tb ts) := by
  intro pins s σ H D I h
  refine wpAny_Try_except (wpAny_mono (hb _ pins s σ H D I h) (fun f s₁ hf => ?_) fun e s₁ he => ?_)
  · cases f with
    | next => exact wpAny_execs_nil hf
    | brk => exact hf
    | cont => exact hf
    | ret u => exact hf
  · obtain ⟨a, C, d, H', rfl, I1, ha, hF, a', C', d', bm, ea', ha', xC, hc, ht⟩ := he
    cases ea'
    have hCC : C = C' := by
      obtain ⟨oe, vs, g1, g2, _⟩ := exo_get I1.hok ha
      obtain ⟨oe', vs', g1', g2', _⟩ := exo_get I1.hok ha'
      rw [g1] at g1'; cases g1'
      rw [g2] at g2'; cases g2'; rfl
    subst hCC
    obtain ⟨oe, vs, g1, g2, g3, g4, g5, g6⟩ := exo_get I1.hok ha
    refine leaveX' (base := X.base) (env := X.env) (outer := X.outer) (L := X.env.locals) (by rw [I.ok.frames, hst]) (by rw [← hst]; exact I1.stack) hfr g1 g4 (.inr hF) fun h' Nt => ?_
    obtain ⟨un, hok⟩ := nts_un I1.hok ha (by rw [← hst]; exact I1.stkFree) Nt
    have J := I1.call' (s' := { s₁ with heap := h' }) rfl (by rw [hst]; exact un) hok I1.bare (fun b z => absurd z (by simp))
    rw [upd_idem ha] at J
    obtain ⟨T, _, hT⟩ := Nt.fly
    have JH := J.hold (.ref a)
    refine wpAny_handleBy_cons (codeAny_handlers_test ?_) (by intro q; cases q)
    refine ld_glob (X := Hd X (.ref a)) JH hg hm ?_ hdb
    obtain ⟨oe2, vs2, k1, k2, _⟩ := exo_get J.hok ha
    refine matchX J.kIn xC xR k1 k2 ?_
    rw [hc]
    refine codeAny_handlers_suite_as ?_
    refine flightX (s := { s₁ with heap := h' }) hT fun h2 _ _ _ same => ?_
    have J2 : Inv (Hd X (.ref a)) pins σ H' { s₁ with heap := h2 } := JH.kept (t' := s₁.toks) (fun b u q => (same rfl b).trans q)
    refine store_ok (X := Hd X (.ref a)) J2 hN hi (.inl hloc) (v := .ref a) rfl (fun s₃ J3 => ?_) (.inr hloc)
    refine wpAny_mono (hs (.ref a) pins s₃ _ H' (D.gone i) J3 ht) (fun f s₄ hf => ?_) fun _ _ z => False.elim z
    cases f with
    | next => obtain ⟨σ', H2, J4, q⟩ := hf; exact gone_ok (J4.offHold I.ok) hN hi hloc fun s' K' => ⟨_, H2, K', q⟩
    | brk => obtain ⟨σ', H2, J4, q⟩ := hf; exact gone_ok (J4.offHold I.ok) hN hi hloc fun s' K' => ⟨_, H2, K', q⟩
    | cont => obtain ⟨σ', H2, J4, q⟩ := hf; exact gone_ok (J4.offHold I.ok) hN hi hloc fun s' K' => ⟨_, H2, K', q⟩
    | ret u => obtain ⟨v, σ', H2, J4, rv, q⟩ := hf; exact gone_ok (J4.offHold I.ok) hN hi hloc fun s' K' => ⟨v, _, H2, K', rv, q⟩
end
end L2
set_option Elab.async false
set_option linter.all false
set_option maxRecDepth 100000
namespace L2
open PySem PySem.Spec PyProof.Rows
section
variable {K : PySem.W.Frag} {C R N : Addr} {dd d0 : Option Addr} {c0 oc : Value} {cd cdR : ClassData} {k0 k1 k2 k3 k5 : Option Value} {sl sl' : Array (Option Value)} {es : Array DictEntry} {n : Nat} {bm bm' : List Value}
theorem tail_base : PySem.W.tailIn K bmV bmV = true := by
  unfold PySem.W.tailIn
  rw [beq_self_eq_true]; rfl
theorem nsok_of (l : K.lookup N = some ⟨oc, d0, .dict es n, sl'⟩) (h : (es.toList.all fun e => match e.key with | .str _ _ => true | _ => false) = true) : PySem.W.nsOkIn K N = true := by
  unfold PySem.W.nsOkIn; rw [l]; dsimp only; rw [← Array.all_toList]; exact h
theorem tail_own (l : K.lookup R = some ⟨c0, d0, .cls cdR, sl⟩) (ok : PySem.W.nsOkIn K cdR.ns = true) (ni : PySem.W.nsIn K cdR.ns "__init__" = some none) (t : PySem.W.tailIn K bmV bm = true) : PySem.W.tailIn K bmV (.ref R :: bm) = true := by
  unfold PySem.W.tailIn
  simp only [l, ok, ni, t, beq_self_eq_true, Bool.and_self, Bool.or_true]
theorem xcl_of (l : K.lookup C = some ⟨.type "type", dd, .cls cd, #[k0, k1, k2, k3, some (.builtin "ValueError.__new__"), k5]⟩) (m : cd.mro = .ref C :: bm) (h1 : cd.hasDel = false) (h2 : cd.hasDict = true) (t : PySem.W.tailIn K bmV bm = true) (kp : PySem.W.keepIn K (.ref C) = true) : XCl K C bm :=
  ⟨⟨dd, cd, k0, k1, k2, k3, k5, l, m, h1, h2⟩, t, kp⟩
theorem kit_ty {h : Heap} {T : String} {b : Bool} (X : K.In h) (xC : XCl K C bm) (hk : PySem.W.kitMeta T = true) (hb : bmV.contains (.type T) = b) : PySem.W.kitOne K (.ref C) (.type T) = some b := by
  unfold PySem.W.kitOne
  rw [if_neg (show ¬ (Value.ref C == Value.type T) = true from by simp)]
  unfold PySem.W.kitCls
  simp only [hk, if_true]
  exact xC.mro X hb
end
noncomputable def fillF : List (Str × V) → List (Str × V) → List (Str × V)
  | acc, [] => acc
  | acc, (f, y) :: r => fillF (putF f y acc) r
inductive spInit (names : List Str) (C : Addr) (vs : List V) (H : Hp) (Q : VK) (E : XK) : Prop
  | mk : ∀ a ys b, (vs = .ref a :: ys) → (ys.length = names.length) → (H a = some (Exo a C none b)) → (∀ dx, H dx = none → dx ≠ a → Q .non (upd (upd H a (Exo a C (some dx) b)) dx (Xdt dx (fillF [] (names.zip ys))))) → spInit names C vs H Q E
end L2
set_option Elab.async false
set_option linter.all false
set_option maxRecDepth 100000
namespace L2
open PySem PySem.Spec PyProof.Rows
structure XMk (P : Program) (w : World) (K : PySem.W.Frag) (mg : Str → Option Value) (base : Heap) (x : Str) (C : Addr) (names : List Str) (k : Nat) : Prop where
  at_ : mg x = some (.ref C)
  ca : XCa K C
  no : ∀ f ∈ names, PySem.W.findIn K (.ref C) f = some none
  ex : ∃ (f : Addr) (fd : FuncData) (bm : List Value), XCl K C bm ∧ PySem.W.findIn K (.ref C) "__init__" = some (some (.ref f)) ∧ PySem.W.isFn K (.ref f) = true ∧ Binds K fd ("self" :: names) [] ∧ FnOk P w K mg base CX0 k f fd ("self" :: names) (spInit names C)
noncomputable def tNewX (C : Addr) (names : List Str) (t : TA) : TE := fun σ H Q => t σ H fun ys H1 => ys.length = names.length ∧ names.length ≤ 900 ∧ ∀ a dx, H1 a = none → H1 dx = none → dx ≠ a →
  Q (.ref a) (upd (upd H1 a (Exo a C (some dx) true)) dx (Xdt dx (fillF [] (names.zip ys))))
section
variable {X : Cx} {x : Str} {C : Addr} {names : List Str} {k j : Nat} {e : Expr} {es : List Expr} {t : TA} {p pos : Pos}
theorem pe_mk (M : XMk X.prog X.w X.K X.mg X.base x C names j) (hr : Room k X.A) (hj : j + 1 ≤ k) (hg : Gl X x) (ha : PA X (e :: es) t)
    (hdb : (x == ("__debug__" : Str)) = false := by decide) (he : starEach (e :: es) X.env = (false, eval e X.env) :: starEach es X.env := by rfl) (hpl : (backTo pos (starEach es X.env)).any (·.1) = false := by rfl) :
    PE X (.Call (.Name x p) (e :: es) [] pos) (tNewX C names t) := by
  obtain ⟨f, fd, bm, xc, hi, hf, hb, F⟩ := M.ex
  intro pins s σ H Q I h
  refine wpAny_Call_Name_kw (ld_glob I hg M.at_ ?_ hdb)
  refine PySem.W.callWith_K (h₀ := X.base) I.ok.mod.kin xc.kp (thn (ha pos pins s σ H _ I h) fun us s1 ⟨vs, H1, I1, r, hl, hn, q⟩ => ⟨I1.kIn, ?_⟩) he hpl
  refine run_makeX (k := j) xc hi hf F (hr.mono hj) hb I1 r ⟨by omega, fun a h0 => ⟨a, vs, true, rfl, hl, upd_same .., fun dx hdx ne => ⟨rfl, ?_⟩⟩⟩
  rw [upd_upd]
  exact q a dx h0 (by rw [upd_ne ne] at hdx; exact hdx) ne
end

section
variable {K : PySem.W.Frag} {C dx a : Addr} {b : Bool} {H : Hp}
end

section
variable {X : Cx} {K : PySem.W.Frag} {e : Expr} {f : Str} {pos : Pos} {ta : TE}
theorem call_isxK (hK : X.K = K) : CallR X (.builtin "isinstance") (rIsx K) := by subst hK; exact call_isx
theorem call_istK (hK : X.K = K) : CallR X (.builtin "isinstance") (rIst K) := by subst hK; exact call_ist
theorem pe_fxK (hK : X.K = K) (he : PE X e ta) (hb : attributeBase e f X.env (eval e X.env) = eval e X.env) : PE X (.Attribute e f pos) (tFx K ta f) := by subst hK; exact pe_fx he hb
end
end L2
set_option Elab.async false
set_option linter.all false
set_option maxRecDepth 100000
namespace L2
open PySem PySem.Spec PyProof.Rows
section
variable {X : Cx} {E : XK} {e a b c : Expr} {te ta tb : TE} {tA : TT} {pos : Pos}

end
end L2
set_option Elab.async false
set_option linter.all false
set_option maxRecDepth 100000
namespace Kx
open PySem PySem.Spec PyProof.Rows L2 Wd
theorem kit_self {K : PySem.W.Frag} {C : Addr} : PySem.W.kitOne K (.ref C) (.ref C) = some true := by unfold PySem.W.kitOne; rw [if_pos (by simp)]
theorem kit_ref2 {K : PySem.W.Frag} {C R : Addr} {bm : List Value} {dd' : Option Addr} {cd' : ClassData} {sl' : Array (Option Value)} (xC : XCl K C bm) (hl' : K.lookup R = some ⟨.type "type", dd', .cls cd', sl'⟩) : PySem.W.kitOne K (.ref C) (.ref R) = some ((Value.ref C :: bm).contains (.ref R)) := by
  obtain ⟨dd, cd, k0, k1, k2, k3, k5, hl, hm, hd, hh⟩ := xC.obj
  unfold PySem.W.kitOne
  by_cases q : (Value.ref C == Value.ref R) = true
  · rw [if_pos q, beq_iff_eq.mp q]; simp
  · rw [if_neg q]
    unfold PySem.W.kitCls
    have h1 : (PySem.W.clsIn K R).isSome = true := by unfold PySem.W.clsIn; rw [hl']; rfl
    have h2 : PySem.W.typeIn K (.ref R) = some (.type "type") := by
      show (K.lookup R).map (·.cls) = _
      rw [hl']; rfl
    simp only [h1, h2, beq_self_eq_true, Bool.and_self, if_true]
    unfold PySem.W.subIn PySem.W.mroIn PySem.W.clsIn
    simp only [hl, Option.bind_some, hm, List.isEmpty_cons, Bool.false_eq_true, if_false]
noncomputable def Aside (K : PySem.W.Frag) (C : Addr) (bm : List Value) (R : Addr) : Prop := (∃ dd cd sl, K.lookup R = some ⟨.type "type", dd, .cls cd, sl⟩) ∧ (Value.ref C :: bm).contains (.ref R) = false
theorem kit_aside {K : PySem.W.Frag} {C : Addr} {bm : List Value} (xC : XCl K C bm) : ∀ {Rs : List Addr}, (∀ R ∈ Rs, Aside K C bm R) → PySem.W.kitAny K (.ref C) (Rs.map .ref) = some false
  | [], _ => rfl
  | R :: Rs, h => by
    obtain ⟨⟨dd, cd, sl, hl⟩, hc⟩ := h R List.mem_cons_self
    have ih := kit_aside xC (Rs := Rs) fun R' h' => h R' (List.mem_cons_of_mem _ h')
    rw [List.map_cons]
    unfold PySem.W.kitAny
    rw [kit_ref2 xC hl, hc]
    simpa using ih
end Kx
set_option Elab.async false
set_option linter.all false
set_option maxRecDepth 100000
namespace L2
open PySem PySem.Spec PyProof.Rows Wd
section
variable {X : Cx}
end
end L2
namespace Kx
open PySem PySem.Spec PyProof.Rows L2 Wd
inductive spLWord1 (K : PySem.W.Frag) (vs : List V) (H : Hp) (Q : VK) (u3_ : XK) : Prop
  | mk : ∀ x, (vs = [x]) → (Th K H x) → (∀ H', Same H H' → Q (.bl (wdV 6 x)) H') → spLWord1 K vs H Q u3_
noncomputable def oL (o : Option (List L)) : List V := o.toList.map tx
theorem at1 {α : Type} (a b : α) (t : List α) : atI (a :: b :: t) (1 : Int) = some b := atI_nat (j := 1) rfl
theorem at2 {α : Type} (a b c : α) (t : List α) : atI (a :: b :: c :: t) (2 : Int) = some c := atI_nat (j := 2) rfl
end Kx
set_option Elab.async false
set_option linter.all false
set_option maxRecDepth 100000
set_option maxHeartbeats 0
namespace L2
open PySem PySem.Spec PyProof.Rows Wd
noncomputable def spNo : Sp := fun _ _ _ _ => False
theorem Df.never {P : Program} {w : World} {K : PySem.W.Frag} {mg : Str → Option Value} {base : Heap} {x : Str} {st : Stmt} {ps : List Str} {k : Nat} (D : Df K mg x st)
    (hb : ∀ (kV doc pm : Value) (an : Option Addr) (cdv ct : Value) (us : List Value), us.length = ps.length → bindArgs (PySem.W.fnOf x x (defArgs st) (defBody st) (defScope st) .none kV doc pm an cdv ct) ⟨us, []⟩ = pure (ps.zip us)) : Fnc P w K mg base x ps k spNo := by
  obtain ⟨f, fd, hm, F⟩ := D.ex
  exact ⟨f, fd, hm, F.kp, F.binds hb, ⟨fun _ _ _ _ h => h.elim, fun _ _ _ _ _ _ _ _ _ _ _ _ _ h => h.elim⟩⟩
end L2
namespace Kx
open PySem PySem.Spec PyProof.Rows L2 Wd
theorem b_ValueError : bootBuiltins "ValueError" = some (.type "ValueError") := by first | rfl | decide +kernel | kernel_rfl
theorem ifsT {t u : TS} {D : Ends} {σ : L2.St} {H : Hp} (h : t D σ H) : tIfS_k1 t u D σ true H := iteT h
theorem ifsF {t u : TS} {D : Ends} {σ : L2.St} {H : Hp} (h : u D σ H) : tIfS_k1 t u D σ false H := iteF h
theorem orkT {u : TT} {σ : L2.St} {Q : Bool → Hp → Prop} {H : Hp} (h : Q true H) : tOr_k1 u σ Q true H := iteT h
theorem orkF {u : TT} {σ : L2.St} {Q : Bool → Hp → Prop} {H : Hp} (h : u σ H Q) : tOr_k1 u σ Q false H := iteF h
theorem andkT {u : TT} {σ : L2.St} {Q : Bool → Hp → Prop} {H : Hp} (h : u σ H Q) : tAnd_k1 u σ Q true H := iteT h
theorem andkF {u : TT} {σ : L2.St} {Q : Bool → Hp → Prop} {H : Hp} (h : Q false H) : tAnd_k1 u σ Q false H := iteF h
theorem ifkT {ta tb : TE} {σ : L2.St} {Q : VK} {H : Hp} (h : ta σ H Q) : tIf_k1 ta tb σ Q true H := iteT h
theorem ifkF {ta tb : TE} {σ : L2.St} {Q : VK} {H : Hp} (h : tb σ H Q) : tIf_k1 ta tb σ Q false H := iteF h
theorem nkF {Q : Bool → Hp → Prop} {H : Hp} (h : Q true H) : tNot_k1 Q false H := h
theorem nkT {Q : Bool → Hp → Prop} {H : Hp} (h : Q false H) : tNot_k1 Q true H := h
noncomputable def Ok3 (z : Str) : Prop := z.length ≤ 500 ∧ (PyData.str z).canLay0 = true
inductive E3 (H : Hp) : V → Prop
  | non : E3 H .non
  | bl (b : Bool) : E3 H (.bl b)
  | int (i : Int) : E3 H (.int i)
  | str (z : Str) (h : Ok3 z) : E3 H (.str z)
  | tupA {a : Addr} (h : H a = some (.tup [.str "a"])) : E3 H (.ref a)
  | nilL {a : Addr} (h : H a = some (.lst [])) : E3 H (.ref a)
theorem E3.mono {H H' : Hp} (st : ∀ a xs, H a = some (.tup xs) → H' a = some (.tup xs)) (sl : ∀ a, H a = some (.lst []) → H' a = some (.lst [])) {x : V} (h : E3 H x) : E3 H' x := by
  cases h with
  | non => exact .non
  | bl b => exact .bl b
  | int i => exact .int i
  | str z h => exact .str z h
  | tupA h => exact .tupA (st _ _ h)
  | nilL h => exact .nilL (sl _ h)
theorem E3.same {H H' : Hp} {x : V} (s : Same H H') (h : E3 H x) : E3 H' x := h.mono (fun _ _ e => s _ _ e) fun _ e => s _ _ e
theorem E3.sb {H H' : Hp} {f : Addr} (F : Fd H f) (s : SameB f H H') {x : V} (h : E3 H x) : E3 H' x := h.mono (fun _ _ e => s _ _ (F.neT e) e) fun _ e => s _ _ (F.nl e) e
theorem E3.dt {H : Hp} {x : V} (h : E3 H x) : ∃ d, Dt H x d ∧ d.canLay0 = true ∧ d.depth ≤ 10 ∧ ∀ z, PyData.eqv d (.str z) = decide (x = .str z) := by
  cases h with
  | non => exact ⟨_, .non, rfl, by decide, fun z => by simp [PyData.eqv]⟩
  | bl b => exact ⟨_, .bl b, rfl, by cases b <;> decide, fun z => by simp [PyData.eqv]⟩
  | int i => exact ⟨_, .int i, rfl, by show 0 ≤ 10; decide, fun z => by simp [PyData.eqv]⟩
  | str y h => exact ⟨_, .str y, h.2, by show 0 ≤ 10; decide, fun z => by
    show (y == z) = decide (V.str y = V.str z)
    rw [Bool.eq_iff_iff, beq_iff_eq, decide_eq_true_eq]
    exact ⟨fun e => by rw [e], fun e => V.str.inj e⟩⟩
  | tupA h => exact ⟨_, .tup h (.cons (.str _) .nil), by decide +kernel, by decide, fun z => by simp [PyData.eqv]⟩
  | nilL h => exact ⟨_, .lst h .nil, rfl, by decide, fun z => by simp [PyData.eqv]⟩
theorem E3.th {K : PySem.W.Frag} {H : Hp} {x : V} (h : E3 H x) : Th K H x := by
  cases h with
  | non => exact .oth .non kit_non (by intro z e; cases e)
  | bl b => exact .oth (.bl b) kit_bool (by intro z e; cases e)
  | int i => exact .oth (.int i) kit_int (by intro z e; cases e)
  | str z h => exact .str z h.1
  | tupA h => exact .oth (.tup h) kit_tup (by intro z e; cases e)
  | nilL h => exact .oth (.lst h) kit_list (by intro z e; cases e)
inductive T3 (H : Hp) : V → Option (List V) → Prop
  | non : T3 H .non none
  | str (z : Str) : T3 H (.str z) none
  | int (i : Int) : T3 H (.int i) none
  | bl (b : Bool) : T3 H (.bl b) none
  | lst {a : Addr} {xs : List V} (h : H a = some (.lst xs)) : T3 H (.ref a) none
  | tup {a : Addr} {xs : List V} (h : H a = some (.tup xs)) (p : ∀ y ∈ xs, E3 H y) (hl : xs.length ≤ 50) : T3 H (.ref a) (some xs)
theorem T3.same {H H' : Hp} {x : V} {o : Option (List V)} (s : Same H H') (h : T3 H x o) : T3 H' x o := by
  cases h with
  | non => exact .non
  | str z => exact .str z
  | int i => exact .int i
  | bl b => exact .bl b
  | lst h => exact .lst (s _ _ h)
  | tup h p hl => exact .tup (s _ _ h) (fun y hy => (p y hy).same s) hl
theorem T3.sb {H H' : Hp} {f : Addr} (F : Fd H f) (s : SameB f H H') {x : V} {o : Option (List V)} (h : T3 H x o) : T3 H' x o := by
  cases h with
  | non => exact .non
  | str z => exact .str z
  | int i => exact .int i
  | bl b => exact .bl b
  | lst h => exact .lst (s _ _ (F.nl h) h)
  | tup h p hl => exact .tup (s _ _ (F.neT h) h) (fun y hy => (p y hy).sb F s) hl
theorem T3.no {K : PySem.W.Frag} {H : Hp} {x : V} (h : T3 H x none) : ∃ n, TyOf K H x (.type n) ∧ PySem.W.kitOne K (.type n) (.type "tuple") = some false := by
  cases h with
  | non => exact ⟨_, .non, kitT_non⟩
  | str z => exact ⟨_, .str z, kitT_str⟩
  | int i => exact ⟨_, .int i, kitT_int⟩
  | bl b => exact ⟨_, .bl b, kitT_bool⟩
  | lst h => exact ⟨_, .lst h, kitT_list⟩
theorem ok_toS (w : List L) (h : w.length ≤ 500) : Ok3 (toS w) := ⟨by rw [toS_length]; exact h, lay_toS w⟩
theorem E3.tx {H : Hp} (w : List L) (h : w.length ≤ 500) : E3 H (tx w) := .str _ (ok_toS w h)
noncomputable def vW : V → List L
  | .str z => (ofS z).getD []
  | _ => []
theorem vW_tx (w : List L) : vW (tx w) = w := by show (ofS (toS w)).getD [] = w; rw [ofS_toS]; rfl
theorem wd_vW {x : V} (h : wdV 6 x = true) : x = tx (vW x) := by
  cases x with
  | str z =>
    have h : isW 6 z = true := h
    rw [isW6] at h
    obtain ⟨w, hw⟩ := Option.isSome_iff_exists.mp h
    show V.str z = V.str (toS ((ofS z).getD []))
    rw [hw]
    show V.str z = V.str (toS w)
    rw [← ofS_some hw]
  | _ => cases h
theorem wd_len {H : Hp} {x : V} (h : wdV 6 x = true) (e : E3 H x) : (vW x).length ≤ 500 := by
  have q := wd_vW h
  cases e with
  | str z hz =>
    have := hz.1
    rw [V.str.inj q, toS_length] at this
    exact this
  | _ => cases h
theorem wd6 (w : List L) : wdV 6 (tx w) = true := by
  show isW 6 (toS w) = true
  rw [isW6, ofS_toS]
  rfl
noncomputable def out3 (u v : List L) (a b : Str) : Option (List V) → Option (Str × Nat)
  | some [x0, x1] => if x0 = .str "alike" ∧ wdV 6 x1 = true then (if red (vW x1 ++ u ++ bk (vW x1)) = red v then none else some ("by", 0)) else some ("shape", 0)
  | some [x0, x1, x2] => if x0 = .str "unlike" ∧ wdV 6 x1 = true ∧ wdV 6 x2 = true then (if x1 ≠ .str a then some ("turn", 0) else if x2 ≠ .str b then some ("turn", 1) else if x1 = x2 then some ("turn", 2) else none) else some ("shape", 0)
  | _ => some ("shape", 0)
noncomputable def outD : Option (Str × Nat) → PyData
  | none => .bool true
  | some (z, k) => .tuple [.str z, .int (k : Nat)]
theorem out3_no {u v : List L} {a b : Str} : out3 u v a b none = some (("shape" : Str), 0) := rfl
theorem out3_nil {u v : List L} {a b : Str} : out3 u v a b (some []) = some (("shape" : Str), 0) := rfl
theorem out3_one {u v : List L} {a b : Str} {x : V} : out3 u v a b (some [x]) = some (("shape" : Str), 0) := rfl
theorem out3_more {u v : List L} {a b : Str} {x y z t : V} {r : List V} : out3 u v a b (some (x :: y :: z :: t :: r)) = some (("shape" : Str), 0) := rfl
theorem out3_two {u v : List L} {a b : Str} {x y : V} (h : ¬ (x = .str "alike" ∧ wdV 6 y = true)) : out3 u v a b (some [x, y]) = some (("shape" : Str), 0) := if_neg h
theorem out3_three {u v : List L} {a b : Str} {x y z : V} (h : ¬ (x = .str "unlike" ∧ wdV 6 y = true ∧ wdV 6 z = true)) : out3 u v a b (some [x, y, z]) = some (("shape" : Str), 0) := if_neg h
theorem out3_al {u v : List L} {a b : Str} {y : List L} : out3 u v a b (some [.str "alike", tx y]) = if red (y ++ u ++ bk y) = red v then none else some (("by" : Str), 0) := by
  show (if _ then _ else _) = _
  rw [if_pos ⟨rfl, wd6 y⟩, vW_tx]
theorem out3_un {u v : List L} {a b : Str} {y z : List L} : out3 u v a b (some [.str "unlike", tx y, tx z]) = if tx y ≠ .str a then some (("turn" : Str), 0) else if tx z ≠ .str b then some (("turn" : Str), 1) else if tx y = tx z then some (("turn" : Str), 2) else none := by
  show (if _ then _ else _) = _
  rw [if_pos ⟨rfl, wd6 y, wd6 z⟩]
theorem out_small {u v : List L} {a b : Str} {o : Option (List V)} {z : Str} {k : Nat} (e : out3 u v a b o = some (z, k)) : (z = "shape" ∨ z = "by" ∨ z = "turn") ∧ k < 100 := by
  unfold out3 at e
  split at e
  · split at e
    · split at e
      · cases e
      · cases e; exact ⟨.inr (.inl rfl), by decide⟩
    · cases e; exact ⟨.inl rfl, by decide⟩
  · split at e
    · split at e
      · cases e; exact ⟨.inr (.inr rfl), by decide⟩
      · split at e
        · cases e; exact ⟨.inr (.inr rfl), by decide⟩
        · split at e
          · cases e; exact ⟨.inr (.inr rfl), by decide⟩
          · cases e
    · cases e; exact ⟨.inl rfl, by decide⟩
  · cases e; exact ⟨.inl rfl, by decide⟩
theorem out_sh {o : Option (Str × Nat)} (h : ∀ z k, o = some (z, k) → (z = "shape" ∨ z = "by" ∨ z = "turn") ∧ k < 100) : Sh (outD o) ∧ ∀ i, outD o = .int i → i.natAbs.log2 < 1920 := by
  cases o with
  | none => exact ⟨sh_sm (sm_bool true), fun i e => by cases e⟩
  | some p =>
    obtain ⟨z, k⟩ := p
    obtain ⟨hz, hk⟩ := h z k rfl
    refine ⟨sh_tupD (fun d hd => ?_) (by simp), fun i e => by cases e⟩
    rcases List.mem_cons.mp hd with rfl | hd
    · rcases hz with rfl | rfl | rfl <;> exact ⟨rfl, rfl, by decide, by decide +kernel, by decide +kernel, fun i e => by cases e⟩
    · rw [List.mem_singleton] at hd
      subst hd
      have lg : ((k : Nat) : Int).natAbs.log2 < 1920 := by
        have all : ∀ k : Nat, k < 100 → ((k : Nat) : Int).natAbs.log2 < 1920 := by decide +kernel
        exact all k hk
      have all : ∀ k : Nat, k < 100 → (PyData.int (k : Nat)).leavesShort 40 = true ∧ (PyData.int (k : Nat)).weight ≤ 400 := by decide +kernel
      obtain ⟨h1, h2⟩ := all k hk
      exact ⟨decide_eq_true lg, rfl, Nat.zero_le _, h1, h2, fun i e => by cases e; exact lg⟩
noncomputable def XP (C : Addr) (H : Hp) (a : Addr) (z : Str) (k : Nat) : Prop := ∃ dx, H a = some (Exo a C (some dx) false) ∧ H dx = some (Xdt dx [("word", .str z), ("at", .int (k : Nat))])
theorem new_paper {C : Addr} {H : Hp} {a dx : Addr} {z : Str} {k : Nat} (ha : H a = none) (hd : H dx = none) (ne : dx ≠ a) :
    XP C (upd (upd (upd H a (Exo a C (some dx) true)) dx (Xdt dx (fillF [] ((["word", "at"] : List Str).zip [.str z, .int (k : Nat)])))) a (Exo a C (some dx) false)) a z k := by
  refine ⟨dx, upd_same, ?_⟩
  rw [upd_ne ne, upd_same]
  rfl
theorem new_sameP {H : Hp} {a dx : Addr} {o o' o2 : HO} (ha : H a = none) (hd : H dx = none) : Same H (upd (upd (upd H a o) dx o') a o2) := fun b u e => by
  rw [upd_ne (ne_of_none e ha), upd_ne (ne_of_none e hd), upd_ne (ne_of_none e ha)]
  exact e
inductive spAP3 (vs : List V) (H : Hp) (Q : VK) (u3_ : XK) : Prop
  | mk : ∀ (x : V) (o : Option (List V)), (vs = [x]) → (T3 H x o) → ((∀ x0 x1, o = some [x0, x1] → x0 = .str "alike" → wdV 6 x1 = true → ∀ H', Same H H' → Q (.bl true) H')) → (((∀ x0 x1, o = some [x0, x1] → x0 = .str "alike" → ¬ wdV 6 x1 = true) → ∀ H', Same H H' → Q (.bl false) H')) → spAP3 vs H Q u3_
inductive spUP3 (vs : List V) (H : Hp) (Q : VK) (u3_ : XK) : Prop
  | mk : ∀ (x : V) (o : Option (List V)), (vs = [x]) → (T3 H x o) → ((∀ x0 x1 x2, o = some [x0, x1, x2] → x0 = .str "unlike" → wdV 6 x1 = true → wdV 6 x2 = true → ∀ H', Same H H' → Q (.bl true) H')) → (((∀ x0 x1 x2, o = some [x0, x1, x2] → x0 = .str "unlike" → ¬ (wdV 6 x1 = true ∧ wdV 6 x2 = true)) → ∀ H', Same H H' → Q (.bl false) H')) → spUP3 vs H Q u3_
inductive spLA3 (C : Addr) (vs : List V) (H : Hp) (Q : VK) (E : XK) : Prop
  | mk : ∀ (u v y : List L), (vs = [tx u, tx v, tx y]) → (u.length ≤ 500) → (v.length ≤ 500) → (y.length ≤ 500) → (red (y ++ u ++ bk y) = red v → ∀ H', Same H H' → Q .non H') → (red (y ++ u ++ bk y) ≠ red v → ∀ a H', XP C H' a "by" 0 → Same H H' → E (.ref a) none H') → spLA3 C vs H Q E
inductive spSign (vs : List V) (H : Hp) (Q : VK) (u3_ : XK) : Prop
  | mk : ∀ (d : Addr), (vs = [.ref d]) → (Fd H d) → (∀ (z : Str) H', z.length = 1 → (PyData.str z).canLay0 = true → Fd H' d → SameB d H H' → Q (.str z) H') → spSign vs H Q u3_
inductive spTextS (vs : List V) (H : Hp) (Q : VK) (u3_ : XK) : Prop
  | mk : ∀ (d : Addr) (z : Str), (vs = [.ref d, .str z]) → (Fd H d) → (z.length ≤ 400) → ((PyData.str z).canLay0 = true) → (∀ (y : Str) H', y.length ≤ z.length + 1 → (PyData.str y).canLay0 = true → Fd H' d → SameB d H H' → Q (.str y) H') → spTextS vs H Q u3_
end Kx
set_option Elab.async false
set_option linter.all false
set_option maxRecDepth 100000
set_option maxHeartbeats 0
namespace Kx
open PySem PySem.Spec PyProof.Rows L2 Wd
noncomputable def top (i : Nat) : Stmt := PySem.Challenge.pw_ringwords_k23_turning_papers.main.body.getD i (.Pass ⟨0, 0, 0, 0⟩)
theorem len1 {α : Type} {us : List α} (h : us.length = 1) : ∃ a0, us = [a0] := by
  cases us with
  | nil => cases h
  | cons a0 us =>
    cases us with
    | nil => exact ⟨a0, rfl⟩
    | cons b us => cases h
theorem len2 {α : Type} {us : List α} (h : us.length = 2) : ∃ a0 a1, us = [a0, a1] := by
  cases us with
  | nil => cases h
  | cons a0 us =>
    cases us with
    | nil => cases h
    | cons a1 us =>
      cases us with
      | nil => exact ⟨a0, a1, rfl⟩
      | cons b us => cases h
theorem len3 {α : Type} {us : List α} (h : us.length = 3) : ∃ a0 a1 a2, us = [a0, a1, a2] := by
  cases us with
  | nil => cases h
  | cons a0 us =>
    cases us with
    | nil => cases h
    | cons a1 us =>
      cases us with
      | nil => cases h
      | cons a2 us =>
        cases us with
        | nil => exact ⟨a0, a1, a2, rfl⟩
        | cons b us => cases h
theorem len4 {α : Type} {us : List α} (h : us.length = 4) : ∃ a0 a1 a2 a3, us = [a0, a1, a2, a3] := by
  cases us with
  | nil => cases h
  | cons a0 us =>
    cases us with
    | nil => cases h
    | cons a1 us =>
      cases us with
      | nil => cases h
      | cons a2 us =>
        cases us with
        | nil => cases h
        | cons a3 us =>
          cases us with
          | nil => exact ⟨a0, a1, a2, a3, rfl⟩
          | cons b us => cases h
end Kx
set_option Elab.async false
set_option linter.all false
set_option maxRecDepth 100000
set_option maxHeartbeats 0
namespace Kx
open PySem PySem.Spec PyProof.Rows L2 Wd
section
variable {P : Program} {w : World} {K : PySem.W.Frag} {mg : Str → Option Value} {base : Heap} {aB : Addr}
noncomputable abbrev s_draw : Stmt := top 34
theorem sc_draw : FnScope ["_law_feed_here", "_law_many", "_law_cell", "_law_mixed", "_law_found"] ["_law_feed_here", "_law_many"] (defScope s_draw) := ⟨rfl, rfl, rfl, by decide +kernel, rfl, by decide +kernel, by decide +kernel⟩
theorem c_draw (D : Df K mg "_law_draw" s_draw) (T : Bt K w mg aB) : Fnc P w K mg base "_law_draw" ["_law_feed_here", "_law_many"] 1 spDraw := by
  have sc := sc_draw
  refine D.ok sc (fun _ _ _ _ _ _ us hl => by obtain ⟨_, _, rfl⟩ := len2 hl; rfl) (fun vs H Q E h => ?_) (fun f cdv A outer s H vs Q E hr h => ?_)
  · obtain ⟨d, m, rfl, _⟩ := h
    rfl
  · obtain ⟨d, m, rfl, F, m0, m1, k⟩ := h
    have hu := hu_of hr
    refine ⟨_, (@pss_cons _ _ _ _ _ (@ps_dput _ _ _ _ _ _ _ _ _ hu (pv 0) pe_str (@pe_op _ _ _ _ _ _ _ _ op_add (@pe_dget _ _ _ _ _ _ hu (pv 0) pe_str (fun _ _ => rfl)) pe_int) rfl) (@pss_cons _ _ _ _ _ (@ps_if _ _ _ _ _ _ _ _ (@pt_cmpR _ _ _ _ _ _ _ _ op_eq (@pe_dget _ _ _ _ _ _ hu (pv 0) pe_str (fun _ _ => rfl)) pe_int (nomark _)) (@pss_cons _ _ _ _ _ (@ps_set _ _ (2) _ _ _ _ sc.nd rfl (Or.inl rfl) (@pe_ix _ _ _ _ _ _ _ ix_list (@pe_dget _ _ _ _ _ _ hu (pv 0) pe_str (fun _ _ => rfl)) (@pe_op _ _ _ _ _ _ _ _ op_mod (@pe_dget _ _ _ _ _ _ hu (pv 0) pe_str (fun _ _ => rfl)) (@pe_callB _ _ _ _ _ _ _ _ _ call_len_seq (by rfl) T.len PySem.boot_len (@pa_cons _ _ _ _ _ (@pe_dget _ _ _ _ _ _ hu (pv 0) pe_str (fun _ _ => rfl)) pa_nil (by rfl)) (by decide) (by decide) (by rfl) (by rfl))) (fun _ _ => rfl)) (by rfl) (by first | exact .inl rfl | exact .inr rfl | assumption)) (@pss_cons _ _ _ _ _ (@ps_dput _ _ _ _ _ _ _ _ _ hu (pv 0) pe_str (@pe_op _ _ _ _ _ _ _ _ op_add (@pe_dget _ _ _ _ _ _ hu (pv 0) pe_str (fun _ _ => rfl)) pe_int) rfl) (@pss_cons _ _ _ _ _ (@ps_if _ _ _ _ _ _ _ _ (@pt_cmpR _ _ _ _ _ _ _ _ op_lt (pv 2) (@pe_op _ _ _ _ _ _ _ _ op_pow pe_int pe_int) (nomark _)) (@pss_cons _ _ _ _ _ (@ps_set _ _ (3) _ _ _ _ sc.nd rfl (Or.inl rfl) (@pe_op _ _ _ _ _ _ _ _ op_mod (@pe_op _ _ _ _ _ _ _ _ op_mul (@pe_op _ _ _ _ _ _ _ _ op_add (@pe_op _ _ _ _ _ _ _ _ op_mod (pv 2) pe_int) (@pe_op _ _ _ _ _ _ _ _ op_mul pe_int (@pe_dget _ _ _ _ _ _ hu (pv 0) pe_str (fun _ _ => rfl)))) pe_int) pe_int) (by rfl) (by first | exact .inl rfl | exact .inr rfl | assumption)) (@pss_cons _ _ _ _ _ (@ps_set _ _ (3) _ _ _ _ sc.nd rfl (Or.inl rfl) (@pe_op _ _ _ _ _ _ _ _ op_mod (@pe_op _ _ _ _ _ _ _ _ op_mul (@pe_op _ _ _ _ _ _ _ _ op_add (@pe_op _ _ _ _ _ _ _ _ op_fdiv (pv 3) pe_int) (@pe_op _ _ _ _ _ _ _ _ op_mul pe_int (@pe_dget _ _ _ _ _ _ hu (pv 0) pe_str (fun _ _ => rfl)))) pe_int) pe_int) (by rfl) (by first | exact .inl rfl | exact .inr rfl | assumption)) (@pss_one _ _ _ (@ps_ret _ _ _ _ (@pe_op _ _ _ _ _ _ _ _ op_mod (@pe_op _ _ _ _ _ _ _ _ op_fdiv (pv 3) pe_int) (pv 1)))))) pss_nil) (@pss_one _ _ _ (@ps_dput _ _ _ _ _ _ _ _ _ hu (pv 0) pe_str (pv 2) rfl))))) pss_nil) (@pss_cons _ _ _ _ _ (@ps_set _ _ (4) _ _ _ _ sc.nd rfl (Or.inl rfl) (@pe_op _ _ _ _ _ _ _ _ op_mod (@pe_dget _ _ _ _ _ _ hu (pv 0) pe_str (fun _ _ => rfl)) (pv 1)) (by rfl) (by first | exact .inl rfl | exact .inr rfl | assumption)) (@pss_cons _ _ _ _ _ (@ps_dput _ _ _ _ _ _ _ _ _ hu (pv 0) pe_str (@pe_op _ _ _ _ _ _ _ _ op_fdiv (@pe_dget _ _ _ _ _ _ hu (pv 0) pe_str (fun _ _ => rfl)) (pv 1)) rfl) (@pss_one _ _ _ (@ps_ret _ _ _ _ (pv 4))))))), ?_⟩
    obtain ⟨c, i, l, t, ns, hd, hc, hne, h64⟩ := F.ex
    have dc : c ≠ d := ne_of hc hd (by intro z; cases z)
    have fin : ∀ (r i' l' t' : Int), 0 ≤ r → r < m → Q (.int r) (upd H d (.dK (fkv c i' l' t'))) := fun r i' l' t' h0 h1 =>
      k r _ h0 h1 ⟨c, i', l', t', ns, upd_same, by rw [upd_ne dc]; exact hc, hne, h64⟩ SameB.upd
    have c1 : ∀ o, (upd H d o) c = some (.lst (ns.map V.int)) := fun o => by rw [upd_ne dc]; exact hc
    have hl0 : (0 : Int) < ((ns.map V.int).length : Int) := by
      rw [List.length_map]
      have := List.length_pos_iff.mpr hne
      omega
    refine ⟨_, rfl, d, _, rfl, dg hd (g_turn c i l t), _, _, rfl, rfl, _, rfl, d, _, rfl, dp hd (fkv_len c i l t) (p_turn c i l t _), ?_⟩
    refine ⟨_, rfl, d, _, rfl, dg upd_same (g_left c i l _), rfl, _, rfl, ?_⟩
    refine ite2 (fun _ => ?_) (fun _ => ?_)
    rotate_left
    · refine ⟨_, rfl, d, _, rfl, dg upd_same (g_left c _ _ _), _, rfl, _, _, rfl, rfl, m0, ?_⟩
      refine ⟨_, rfl, d, _, rfl, dg upd_same (g_left c _ _ _), _, rfl, _, _, rfl, rfl, ⟨m0, by omega⟩, _, rfl, d, _, rfl, dp upd_same (fkv_len c _ _ _) (p_left c _ _ _ _), ?_⟩
      refine ⟨_, rfl, ?_⟩
      rw [upd_upd]
      exact fin _ _ _ _ (Int.emod_nonneg _ (by omega)) (Int.emod_lt_of_pos _ m0)
    obtain ⟨n, hn⟩ := cell_at hne i
    refine ⟨_, rfl, d, _, rfl, dg upd_same (g_cells c i l _), _, rfl, d, _, rfl, dg upd_same (g_at c i l _), _, rfl, d, _, rfl, dg upd_same (g_cells c i l _), c, _, rfl, .inl (SqL.of (c1 _)), _, _, rfl, rfl, hl0, c, _, _, _, rfl, rfl, SqL.of (c1 _), hn, ?_⟩
    refine ⟨_, rfl, d, _, rfl, dg upd_same (g_at c i l _), _, _, rfl, rfl, _, rfl, d, _, rfl, dp upd_same (fkv_len c i l _) (p_at c i l _ _), ?_⟩
    rw [upd_upd]
    refine ⟨_, rfl, _, _, rfl, rfl, ⟨by decide, by decide, by decide⟩, _, _, rfl, rfl, _, rfl, ?_⟩
    refine ite2 (fun _ => ?_) (fun _ => ?_)
    · refine ⟨_, rfl, _, _, rfl, rfl, (by show (0 : Int) < 2147483629; decide), _, rfl, d, _, rfl, dg upd_same (g_turn c _ l _), _, _, rfl, rfl, .inl ⟨by decide, by decide⟩, _, _, rfl, rfl, _, _, rfl, rfl, .inr ⟨by decide, by decide⟩, _, _, rfl, rfl, (by show (0 : Int) < 2147483647; decide), ?_⟩
      refine ⟨_, rfl, _, _, rfl, rfl, ⟨by decide, by decide⟩, _, rfl, d, _, rfl, dg upd_same (g_turn c _ l _), _, _, rfl, rfl, .inl ⟨by decide, by decide⟩, _, _, rfl, rfl, _, _, rfl, rfl, .inr ⟨by decide, by decide⟩, _, _, rfl, rfl, (by show (0 : Int) < 2147483587; decide), ?_⟩
      refine ⟨_, rfl, _, _, rfl, rfl, ⟨by decide, by decide⟩, _, rfl, _, _, rfl, rfl, m0, ?_⟩
      exact fin _ _ _ _ (Int.emod_nonneg _ (by omega)) (Int.emod_lt_of_pos _ m0)
    · refine ⟨_, rfl, _, rfl, d, _, rfl, dp upd_same (fkv_len c _ l _) (p_left c _ l _ _), ?_⟩
      rw [upd_upd]
      refine ⟨_, rfl, d, _, rfl, dg upd_same (g_left c _ _ _), _, rfl, _, _, rfl, rfl, m0, ?_⟩
      refine ⟨_, rfl, d, _, rfl, dg upd_same (g_left c _ _ _), _, rfl, _, _, rfl, rfl, ⟨m0, by omega⟩, _, rfl, d, _, rfl, dp upd_same (fkv_len c _ _ _) (p_left c _ _ _ _), ?_⟩
      refine ⟨_, rfl, ?_⟩
      rw [upd_upd]
      exact fin _ _ _ _ (Int.emod_nonneg _ (by omega)) (Int.emod_lt_of_pos _ m0)
end
section
variable {P : Program} {w : World} {K : PySem.W.Frag} {mg : Str → Option Value} {base : Heap} {aB : Addr}
noncomputable abbrev s_feed : Stmt := top 33
theorem sc_feed : FnScope ["_law_script"] ["_law_script"] (defScope s_feed) := ⟨rfl, rfl, rfl, by decide +kernel, rfl, by decide +kernel, by decide +kernel⟩
theorem c_feed (D : Df K mg "_law_feed" s_feed) (T : Bt K w mg aB) : Fnc P w K mg base "_law_feed" ["_law_script"] 1 (spFeed K) := by
  have sc := sc_feed
  refine D.ok sc (fun _ _ _ _ _ _ us hl => by obtain ⟨_, rfl⟩ := len1 hl; rfl) (fun vs H Q E h => ?_) (fun f cdv A outer s H vs Q E hr h => ?_)
  · obtain ⟨a, ns, rfl, _⟩ := h
    rfl
  · obtain ⟨a, ns, rfl, hS, hlen, k⟩ := h
    have hu := hu_of hr
    refine ⟨_, (@pss_one _ _ _ (@ps_ret _ _ _ _ (@pe_disp _ _ _ _ _ (@pps_cons _ _ _ _ _ _ _ _ _ pe_str (@pe_op _ _ _ _ _ _ _ _ op_cat (@pe_callTy _ _ _ _ _ _ _ _ _ call_list_of (by rfl) T.list b_list (@pa_cons _ _ _ _ _ (@pe_slice _ _ _ _ _ _ _ _ _ _ sl_list (pv 0) po_none (@po_some _ _ _ pe_int)) pa_nil (by rfl)) (by decide) (by decide) (by rfl) (by rfl)) (@pe_op _ _ _ _ _ _ _ _ op_rep (@pe_lst _ _ _ _ (@pa_cons _ _ _ _ _ pe_int pa_nil (by rfl))) (@pe_callTy _ _ _ _ _ _ _ _ _ call_int1 (by rfl) T.int b_int (@pa_cons _ _ _ _ _ (@pe_cmpR _ _ _ _ _ _ _ _ op_eq (@pe_callB _ _ _ _ _ _ _ _ _ call_len_seq (by rfl) T.len PySem.boot_len (@pa_cons _ _ _ _ _ (pv 0) pa_nil (by rfl)) (by decide) (by decide) (by rfl) (by rfl)) pe_int (nomark _)) pa_nil (by rfl)) (by decide) (by decide) (by rfl) (by rfl)))) (@pps_cons _ _ _ _ _ _ _ _ _ pe_str pe_int (@pps_cons _ _ _ _ _ _ _ _ _ pe_str pe_int (@pps_cons _ _ _ _ _ _ _ _ _ pe_str pe_int pps_nil)))) rfl rfl (by simp) (by decide)))), ?_⟩
    intro p hp
    have s1 : Same H (upd H p (.dK [])) := Same.new hp
    have p1 : (upd H p (.dK [])) p = some (.dK []) := upd_same
    generalize upd H p (.dK []) = H1 at s1 p1
    refine ⟨_, rfl, _, rfl, a, _, rfl, s1.seq hS, fun q1 hq1 => ?_⟩
    rw [cut63 hlen]
    have s2 : Same H1 (upd H1 q1 (.lst (ns.map V.int))) := Same.new hq1
    have l2 : (upd H1 q1 (.lst (ns.map V.int))) q1 = some (.lst (ns.map V.int)) := upd_same
    generalize upd H1 q1 (.lst (ns.map V.int)) = H2 at s2 l2 ⊢
    refine ⟨q1, _, rfl, .inl (SqL.of l2), fun q2 hq2 => ?_⟩
    have s3 : Same H2 (upd H2 q2 (.lst (ns.map V.int))) := Same.new hq2
    have l3 : (upd H2 q2 (.lst (ns.map V.int))) q2 = some (.lst (ns.map V.int)) := upd_same
    generalize upd H2 q2 (.lst (ns.map V.int)) = H3 at s3 l3 ⊢
    refine ⟨(by show 1 ≤ sizeLine; decide), fun q4 hq4 => ?_⟩
    have s4 : Same H3 (upd H3 q4 (.lst [V.int 0])) := Same.new hq4
    have l4 : (upd H3 q4 (.lst [V.int 0])) q4 = some (.lst [V.int 0]) := upd_same
    generalize upd H3 q4 (.lst [V.int 0]) = H4 at s4 l4 ⊢
    have s14 : Same H H4 := ((s1.trans s2).trans s3).trans s4
    refine ⟨_, rfl, a, _, rfl, .inl (s14.seq hS), rfl, .inr ⟨_, rfl, q4, _, _, rfl, rfl, l4, ?_, ?_, ?_, fun q5 hq5 => ?_⟩⟩
    · split <;> decide
    · split <;> decide
    · split <;> decide
    have s5 : Same H4 (upd H4 q5 (.lst (List.replicate ((if decide (V.int ((ns.map V.int).length : Int) = V.int 0) = true then 1 else 0 : Int)).toNat [V.int 0]).flatten)) := Same.new hq5
    have l5 : (upd H4 q5 (.lst (List.replicate ((if decide (V.int ((ns.map V.int).length : Int) = V.int 0) = true then 1 else 0 : Int)).toNat [V.int 0]).flatten)) q5 = _ := upd_same
    generalize upd H4 q5 (.lst (List.replicate ((if decide (V.int ((ns.map V.int).length : Int) = V.int 0) = true then 1 else 0 : Int)).toNat [V.int 0]).flatten) = H5 at s5 l5 ⊢
    refine ⟨q2, q5, _, _, rfl, rfl, s5 _ _ (s4 _ _ l3), l5, ?_, fun q6 hq6 => ?_⟩
    · have e : (List.replicate ((if decide (V.int ((ns.map V.int).length : Int) = V.int 0) = true then 1 else 0 : Int)).toNat [V.int 0]).flatten.length ≤ 1 := by split <;> decide
      have e2 : sizeLine = 16777216 := sizeLine_eq
      have e3 : (ns.map V.int).length = ns.length := List.length_map ..
      omega
    have el : ns.map V.int ++ (List.replicate ((if decide (V.int ((ns.map V.int).length : Int) = V.int 0) = true then 1 else 0 : Int)).toNat [V.int 0]).flatten = (if ns = [] then [0] else ns).map V.int := by
      cases ns with
      | nil => rfl
      | cons n r =>
        have en : ¬ (decide (V.int (((n :: r).map V.int).length : Int) = V.int 0) = true) := by
          rw [List.length_map, List.length_cons]
          simp only [V.int.injEq, decide_eq_true_eq]
          omega
        rw [if_neg en, if_neg (by simp)]
        simp
    rw [el]
    have s6 : Same H5 (upd H5 q6 (.lst ((if ns = [] then [0] else ns).map V.int))) := Same.new hq6
    have l6 : (upd H5 q6 (.lst ((if ns = [] then [0] else ns).map V.int))) q6 = _ := upd_same
    generalize upd H5 q6 (.lst ((if ns = [] then [0] else ns).map V.int)) = H6 at s6 l6 ⊢
    have p6 : H6 p = some (.dK []) := s6 _ _ (s5 _ _ (s4 _ _ (s3 _ _ (s2 _ _ p1))))
    have pq : q6 ≠ p := ne_of l6 p6 (by intro z; cases z)
    refine ⟨p6, fkv q6 0 0 0, rfl, (by show 4 ≤ 15; decide), ?_⟩
    rw [m_fkv]
    refine k p _ hp ⟨q6, 0, 0, 0, (if ns = [] then [0] else ns), upd_same, by rw [upd_ne pq]; exact l6, ?_, ?_⟩ fun b o e => ?_
    · split
      · simp
      · assumption
    · split
      · decide
      · omega
    · rw [upd_ne (ne_of_none e hp)]
      exact s6 _ _ (s5 _ _ (s14 _ _ e))
end
end Kx
set_option Elab.async false
set_option linter.all false
set_option maxRecDepth 100000
set_option maxHeartbeats 0
namespace Kx
open PySem PySem.Spec PyProof.Rows L2 Wd
section
variable {P : Program} {w : World} {K : PySem.W.Frag} {mg : Str → Option Value} {base : Heap} {aB : Addr}
noncomputable abbrev s_back : Stmt := top 18
theorem sc_back : FnScope ["word"] ["word"] (defScope s_back) := ⟨rfl, rfl, rfl, by decide +kernel, rfl, by decide +kernel, by decide +kernel⟩
theorem c_back (D : Df K mg "back" s_back) (T : Bt K w mg aB) : Fnc P w K mg base "back" ["word"] 1 spBk := by
  have sc := sc_back
  refine D.ok sc (fun _ _ _ _ _ _ us hl => by obtain ⟨_, rfl⟩ := len1 hl; rfl) (fun vs H Q E h => ?_) (fun f cdv A outer s H vs Q E hr h => ?_)
  · obtain ⟨u, rfl, _⟩ := h
    rfl
  · obtain ⟨u, rfl, hu, k⟩ := h
    have l16 := line16
    refine ⟨_, (@pss_one _ _ _ (@ps_ret _ _ _ _ (@pe_bm _ _ _ _ _ _ _ _ _ _ _ _ PySem.F.plainAttrs_str PySem.F.slot_str_join PySem.F.type_str_join mt_join pe_str (@pa_cons _ _ _ _ _ (@pe_comp _ _ _ _ _ _ _ (["letter"]) (["letter"]) ([]) _ _ _ _ (@blk_of _ _ _ _ _ _ rfl (by kernel_rfl)) rfl (@pi_strR _ _ _ _ _ _ rfl T.reversed b_reversed (@pa_cons _ _ _ _ _ (pv 0) pa_nil (by rfl)) (by rfl)) (fun _ _ _ _ => @pg_name _ _ (0) _ (show (["letter"] : List Str).Nodup from by decide +kernel) rfl (Or.inl rfl) (by first | exact .inl rfl | exact .inr rfl | assumption)) (fun _ _ _ _ => pifs_nil) (fun _ _ _ _ => by (exact (@pe_kget _ _ _ _ _ _ _ _ _ T.dB rfl rfl rfl T.mgB (pv 0) (fun _ _ => rfl) (by decide)))) (by intro _ ; rfl)) pa_nil (by rfl)) (by rfl) (by rfl) (by rfl) (by rfl) (by rfl)))), ?_⟩
    refine ⟨rfl, _, rfl, _, rfl, (by rw [toS_length]; omega), ?_⟩
    refine comp_by (own := ["letter"]) (cap := []) (J := Itsr (toS u)) u.length (fun i ys σ H' => H' = H ∧ ys = ones ((bk u).take i) ∧ ∃ v, σ = [v]) ⟨rfl, rfl, none, rfl⟩ (fun i ys σ H' hi ⟨_, e, _⟩ => ?_) (by omega) (fun i ys σ H' hi _ => ?_) (fun ys σ H' _ => ?_) ?_ ?_
    · rw [e, ones_length, List.length_take]; omega
    · show i < (toS u).cps.size; rw [toS_size]; exact hi
    · show _ = (toS u).cps.size; rw [toS_size]
    · rintro i ys σ H1 x H2 N hi ⟨rfl, rfl, v, rfl⟩ ⟨rfl, c, hc, rfl⟩ hN
      rw [toS_size] at hc
      obtain ⟨y, hy, e⟩ := sign_at hc
      obtain ⟨t, ht⟩ := T.gB y
      refine ⟨_, rfl, toS [y], toS [inv y], t, by rw [e], ht, hN _ _ _ ⟨rfl, ?_, _, rfl⟩⟩
      rw [take_snoc (bk_get u hi hy), ← ones_snoc]
      rfl
    · rintro ys σ H1 l ⟨rfl, rfl, v, rfl⟩ hl
      rw [List.take_of_length_le (by rw [bk_length]; exact Nat.le_refl _)]
      refine ⟨_, l, (bk u).map fun x => toS [x], rfl, rfl, SqL.of (by rw [upd_same, ones_str]), join_room _ (by rw [bk_length]; omega), ?_⟩
      rw [join_ones]
      exact k _ (Same.new hl)
end
section
variable {P : Program} {w : World} {K : PySem.W.Frag} {mg : Str → Option Value} {base : Heap} {aB : Addr}
noncomputable abbrev s_red : Stmt := top 19
theorem sc_red : FnScope ["word", "left", "letter"] ["word"] (defScope s_red) := ⟨rfl, rfl, rfl, by decide +kernel, rfl, by decide +kernel, by decide +kernel⟩
theorem c_red (D : Df K mg "reduced" s_red) (T : Bt K w mg aB) : Fnc P w K mg base "reduced" ["word"] 1 spRed := by
  have sc := sc_red
  refine D.ok sc (fun _ _ _ _ _ _ us hl => by obtain ⟨_, rfl⟩ := len1 hl; rfl) (fun vs H Q E h => ?_) (fun f cdv A outer s H vs Q E hr h => ?_)
  · obtain ⟨u, rfl, _⟩ := h
    rfl
  · obtain ⟨u, rfl, hu, k⟩ := h
    have l16 := line16
    refine ⟨_, (@pss_cons _ _ _ _ _ (@ps_set _ _ (1) _ _ _ _ sc.nd rfl (Or.inl rfl) (@pe_lst _ _ _ _ pa_nil) (by rfl) (by first | exact .inl rfl | exact .inr rfl | assumption)) (@pss_cons _ _ _ _ _ (@ps_for _ _ _ _ _ _ _ _ PassesOwn.never rfl (@pi_str _ _ _ _ (pv 0)) (@pg_name _ _ (2) _ sc.nd rfl (Or.inl rfl) (by first | exact .inl rfl | exact .inr rfl | assumption)) (@pss_one _ _ _ (@ps_if _ _ _ _ _ _ _ _ (@PW.pt _ _ _ (@pw_and _ _ _ _ _ _ _ (@pt_truth _ _ _ (pv 1) (fun _ => rfl)) (@pw_and1 _ _ _ _ (@pt_cmpR _ _ _ _ _ _ _ _ op_eq (@pe_ix _ _ _ _ _ _ _ ix_list (pv 1) (@pe_un _ _ _ _ _ _ un_neg pe_int) (fun _ _ => rfl)) (@pe_kget _ _ _ _ _ _ _ _ _ T.dB rfl rfl rfl T.mgB (pv 2) (fun _ _ => rfl) (by decide)) (nomark _))))) (@pss_one _ _ _ (@ps_expr _ _ _ _ (@pe_bm0 _ _ _ _ _ _ _ _ _ PySem.F.plainAttrs_list PySem.F.slot_list_pop PySem.F.type_list_pop mt_pop (pv 1) (by rfl) (by rfl)) (by rfl))) (@pss_one _ _ _ (@ps_expr _ _ _ _ (@pe_bm _ _ _ _ _ _ _ _ _ _ _ _ PySem.F.plainAttrs_list PySem.F.slot_list_append PySem.F.type_list_append mt_append (pv 1) (@pa_cons _ _ _ _ _ (pv 2) pa_nil (by rfl)) (by rfl) (by rfl) (by rfl) (by rfl) (by rfl)) (by rfl))))) (by intro _ ; rfl)) (@pss_one _ _ _ (@ps_ret _ _ _ _ (@pe_bm _ _ _ _ _ _ _ _ _ _ _ _ PySem.F.plainAttrs_str PySem.F.slot_str_join PySem.F.type_str_join mt_join pe_str (@pa_cons _ _ _ _ _ (pv 1) pa_nil (by rfl)) (by rfl) (by rfl) (by rfl) (by rfl) (by rfl)))))), ?_⟩
    refine ⟨(by show 0 ≤ sizeLine; decide), fun l hl => ?_⟩
    refine ⟨_, rfl, _, rfl, for_str (z := toS u) (fun i σ H' => ∃ v, σ = [some (tx u), some (.ref l), v] ∧ Same H H' ∧ H' l = some (.lst (ones (act (u.take i) []).reverse))) ⟨none, rfl, Same.new hl, by rw [upd_same]; rfl⟩ ?_ ?_⟩
    · rintro i c σ H1 hc ⟨v, rfl, s1, l1⟩
      obtain ⟨x, hx, e⟩ := sign_at hc
      obtain ⟨t, ht⟩ := T.gB x
      have hi : i < u.length := (List.getElem?_eq_some_iff.mp hx).1
      have step : act (u.take (i + 1)) [] = push (act (u.take i) []) x := by rw [take_snoc hx, act_snoc]
      have long : (act (u.take i) []).length ≤ u.length := by
        have := act_length (u.take i) []
        rw [List.length_nil, List.length_take] at this
        omega
      have nl : ∀ b o, H b = some o → b ≠ l := fun b o e => ne_of_none e hl
      have put : (act (u.take (i + 1)) [] = x :: act (u.take i) []) → ∀ H2 : Hp, H2 = upd H1 l (.lst (ones (act (u.take i) []).reverse ++ [tx [x]])) → ∃ v, [some (tx u), some (.ref l), some (V.str ⟨#[c]⟩)] = [some (tx u), some (.ref l), v] ∧ Same H H2 ∧ H2 l = some (.lst (ones (act (u.take (i + 1)) []).reverse)) := fun e H2 eH => by
        subst eH
        refine ⟨_, rfl, fun b o q => by rw [upd_ne (nl b o q)]; exact s1 b o q, ?_⟩
        rw [upd_same, e, List.reverse_cons, ones_snoc]
      refine ⟨_, rfl, _, .inl ⟨_, SqL.of l1, rfl⟩, ?_⟩
      cases hq : act (u.take i) [] with
      | nil =>
        rw [hq] at l1 step
        refine iteF (iteF ?_)
        refine ⟨_, rfl, .inl ⟨rfl, _, SqL.of l1⟩, _, rfl, l, _, _, rfl, rfl, l1, (by show 0 < sizeLine; decide), ?_⟩
        rw [hq] at put
        exact put step _ (by rw [e]; rfl)
      | cons y r =>
        rw [hq] at l1 step long put
        have long : r.length + 1 ≤ u.length := long
        have e1 : ones (y :: r).reverse = ones r.reverse ++ [tx [y]] := by rw [List.reverse_cons, ones_snoc]
        have e0 : (!(ones (y :: r).reverse).isEmpty) = true := by rw [e1]; simp
        rw [e0]
        refine iteT ?_
        refine ⟨_, rfl, _, rfl, l, _, _, _, rfl, rfl, SqL.of l1, (by rw [e1]; exact atI_last _ _), _, rfl, toS [x], toS [inv x], t, by rw [e], ht, rfl, _, rfl, ?_⟩
        · show if decide (tx [y] = tx [inv x]) = true then _ else _
          rw [dec_tx]
          refine ite2 (fun h => ?_) (fun h => ?_)
          · have h : y = inv x := by simpa using h
            refine ⟨_, rfl, .inl ⟨rfl, _, SqL.of l1⟩, l, _, tx [y], rfl, rfl, l1, ?_, ?_⟩
            · rw [e1]; simp
            · refine ⟨_, rfl, fun b o q => by rw [upd_ne (nl b o q)]; exact s1 b o q, ?_⟩
              rw [upd_same, e1, List.dropLast_concat, step]
              show _ = some (HO.lst (ones (if y = inv x then r else x :: y :: r).reverse))
              rw [if_pos h]
          · have h : ¬ y = inv x := by simpa using h
            refine ⟨_, rfl, .inl ⟨rfl, _, SqL.of l1⟩, _, rfl, l, _, _, rfl, rfl, l1, (by rw [ones_length, List.length_reverse, List.length_cons]; omega), ?_⟩
            refine put ?_ _ (by rw [e]; rfl)
            rw [step]
            show (if y = inv x then r else x :: y :: r) = _
            rw [if_neg h]
    · rintro σ H1 ⟨v, rfl, s1, l1⟩
      rw [toS_size, List.take_length] at l1
      refine ⟨rfl, _, rfl, _, l, (red u).map fun x => toS [x], rfl, rfl, SqL.of (by rw [l1, ← ones_str]; rfl), join_room _ ?_, ?_⟩
      · have := red_length u; omega
      · rw [join_ones]
        exact k _ s1
end
end Kx
set_option Elab.async false
set_option linter.all false
set_option maxRecDepth 100000
set_option maxHeartbeats 0
namespace Kx
open PySem PySem.Spec PyProof.Rows L2 Wd
section
variable {P : Program} {w : World} {K : PySem.W.Frag} {mg : Str → Option Value} {base : Heap} {aB : Addr}
noncomputable abbrev s_lback : Stmt := top 35
theorem sc_lback : FnScope ["_law_word", "_law_found", "_law_sign_here"] ["_law_word"] (defScope s_lback) := ⟨rfl, rfl, rfl, by decide +kernel, rfl, by decide +kernel, by decide +kernel⟩
theorem c_lback (D : Df K mg "_law_back" s_lback) : Fnc P w K mg base "_law_back" ["_law_word"] 1 spBk := by
  have sc := sc_lback
  refine D.ok sc (fun _ _ _ _ _ _ us hl => by obtain ⟨_, rfl⟩ := len1 hl; rfl) (fun vs H Q E h => ?_) (fun f cdv A outer s H vs Q E hr h => ?_)
  · obtain ⟨u, rfl, _⟩ := h
    rfl
  · obtain ⟨u, rfl, hu, k⟩ := h
    have l16 := line16
    refine ⟨_, (@pss_cons _ _ _ _ _ (@ps_set _ _ (1) _ _ _ _ sc.nd rfl (Or.inl rfl) pe_str (by rfl) (by first | exact .inl rfl | exact .inr rfl | assumption)) (@pss_cons _ _ _ _ _ (@ps_for _ _ _ _ _ _ _ _ PassesOwn.never rfl (@pi_str _ _ _ _ (pv 0)) (@pg_name _ _ (2) _ sc.nd rfl (Or.inl rfl) (by first | exact .inl rfl | exact .inr rfl | assumption)) (@pss_one _ _ _ (@ps_set _ _ (1) _ _ _ _ sc.nd rfl (Or.inl rfl) (@pe_op _ _ _ _ _ _ _ _ op_add_str (@pe_ifExp _ _ _ _ _ _ _ _ (@pt_cmpR _ _ _ _ _ _ _ _ op_in_str (pv 2) pe_str rfl) (@pe_bm0 _ _ _ _ _ _ _ _ _ PySem.F.plainAttrs_str PySem.F.slot_str_upper PySem.F.type_str_upper mt_upper (pv 2) (by rfl) (by rfl)) (@pe_bm0 _ _ _ _ _ _ _ _ _ PySem.F.plainAttrs_str PySem.F.slot_str_lower PySem.F.type_str_lower mt_lower (pv 2) (by rfl) (by rfl))) (pv 1)) (by rfl) (by first | exact .inl rfl | exact .inr rfl | assumption))) (by intro _ ; rfl)) (@pss_one _ _ _ (@ps_ret _ _ _ _ (pv 1))))), ?_⟩
    refine ⟨_, rfl, _, rfl, for_str (z := toS u) (fun i σ H' => ∃ v, σ = [some (tx u), some (tx (bk (u.take i))), v] ∧ H' = H) ⟨none, (by rw [List.take_zero]; show _ = [some (tx u), some (tx []), none]; rw [tx_nil]; rfl), rfl⟩ ?_ ?_⟩
    · rintro i c σ H1 hc ⟨v, rfl, rfl⟩
      obtain ⟨x, hx, e⟩ := sign_at hc
      rw [e]
      have hi : i < u.length := (List.getElem?_eq_some_iff.mp hx).1
      have fin : ∀ z, z = toS [inv x] → ∃ v', [some (tx u), some (V.str (z ++ toS (bk (u.take i)))), some (V.str (toS [x]))] = [some (tx u), some (tx (bk (u.take (i + 1)))), v'] ∧ H1 = H1 := fun z ez => by
        refine ⟨some (V.str (toS [x])), ?_, rfl⟩
        rw [ez, tx_app, take_snoc hx, bk_append]
        rfl
      have room : ∀ z, z = toS [inv x] → z.length + (toS (bk (u.take i))).length ≤ sizeLine := fun z ez => by
        rw [ez, toS_length, toS_length, bk_length, List.length_take]
        simp only [List.length_singleton]
        omega
      refine ⟨_, rfl, _, _, rfl, rfl, _, rfl, ?_⟩
      rw [in_small]
      refine ite2 (fun h => ?_) (fun h => ?_)
      · have h : x.val < 6 := by simpa using h
        exact ⟨_, rfl, rfl, _, rfl, rfl, (by rw [toS_length]; show 1 ≤ 5592405; decide), _, rfl, _, _, rfl, rfl, room _ (upper_one h), fin _ (upper_one h)⟩
      · have h : ¬ x.val < 6 := by simpa using h
        exact ⟨_, rfl, rfl, _, rfl, rfl, (by rw [toS_length]; show 1 ≤ 5592405; decide), _, rfl, _, _, rfl, rfl, room _ (lower_one h), fin _ (lower_one h)⟩
    · rintro σ H1 ⟨v, rfl, rfl⟩
      rw [toS_size, List.take_length]
      exact ⟨_, rfl, k _ (Same.refl _)⟩
end
end Kx
set_option Elab.async false
set_option linter.all false
set_option maxRecDepth 100000
set_option maxHeartbeats 0
namespace Kx
open PySem PySem.Spec PyProof.Rows L2 Wd
section
variable {P : Program} {w : World} {K : PySem.W.Frag} {mg : Str → Option Value} {base : Heap} {aB : Addr}
noncomputable abbrev s_lred : Stmt := top 36
theorem sc_lred : FnScope ["_law_word", "_law_at"] ["_law_word"] (defScope s_lred) := ⟨rfl, rfl, rfl, by decide +kernel, rfl, by decide +kernel, by decide +kernel⟩
theorem c_lred (D : Df K mg "_law_reduced" s_lred) (T : Bt K w mg aB) (F_lback : Fnc P w K mg base "_law_back" ["_law_word"] 1 spBk) : Fnc P w K mg base "_law_reduced" ["_law_word"] 2 spRed := by
  have sc := sc_lred
  refine D.ok sc (fun _ _ _ _ _ _ us hl => by obtain ⟨_, rfl⟩ := len1 hl; rfl) (fun vs H Q E h => ?_) (fun f cdv A outer s H vs Q E hr h => ?_)
  · obtain ⟨u, rfl, _⟩ := h
    rfl
  · obtain ⟨u0, rfl, hu, k⟩ := h
    have l16 := line16
    refine ⟨_, (@pss_cons _ _ _ _ _ (@ps_set _ _ (1) _ _ _ _ sc.nd rfl (Or.inl rfl) pe_int (by rfl) (by first | exact .inl rfl | exact .inr rfl | assumption)) (@pss_cons _ _ _ _ _ (@ps_while _ _ _ _ _ _ PassesOwn.never (@pt_cmpR _ _ _ _ _ _ _ _ op_lt (@pe_op _ _ _ _ _ _ _ _ op_add (pv 1) pe_int) (@pe_callB _ _ _ _ _ _ _ _ _ call_len_str (by rfl) T.len PySem.boot_len (@pa_cons _ _ _ _ _ (pv 0) pa_nil (by rfl)) (by decide) (by decide) (by rfl) (by rfl)) (nomark _)) (@pss_one _ _ _ (@ps_if _ _ _ _ _ _ _ _ (@pt_cmpR _ _ _ _ _ _ _ _ op_eq (@pe_ix _ _ _ _ _ _ _ ix_str (pv 0) (@pe_op _ _ _ _ _ _ _ _ op_add (pv 1) pe_int) (fun _ _ => rfl)) (@pe_fn _ _ _ _ _ _ _ _ _ _ _ F_lback hr (by decide) rfl (@pa_cons _ _ _ _ _ (@pe_ix _ _ _ _ _ _ _ ix_str (pv 0) (pv 1) (fun _ _ => rfl)) pa_nil (by rfl)) (by decide) (by rfl) (by rfl)) (nomark _)) (@pss_cons _ _ _ _ _ (@ps_set _ _ (0) _ _ _ _ sc.nd rfl (Or.inl rfl) (@pe_op _ _ _ _ _ _ _ _ op_add_str (@pe_slice _ _ _ _ _ _ _ _ _ _ sl_str (pv 0) po_none (@po_some _ _ _ (pv 1))) (@pe_slice _ _ _ _ _ _ _ _ _ _ sl_str (pv 0) (@po_some _ _ _ (@pe_op _ _ _ _ _ _ _ _ op_add (pv 1) pe_int)) po_none)) (by rfl) (by first | exact .inl rfl | exact .inr rfl | assumption)) (@pss_one _ _ _ (@ps_set _ _ (1) _ _ _ _ sc.nd rfl (Or.inl rfl) (@pe_callB _ _ _ _ _ _ _ _ _ (@call_max2 _ rfl) (by rfl) T.max b_max (@pa_cons _ _ _ _ _ pe_int (@pa_cons _ _ _ _ _ (@pe_op _ _ _ _ _ _ _ _ op_sub (pv 1) pe_int) pa_nil (by rfl)) (by rfl)) (by decide) (by decide) (by rfl) (by rfl)) (by rfl) (by first | exact .inl rfl | exact .inr rfl | assumption)))) (@pss_one _ _ _ (@ps_set _ _ (1) _ _ _ _ sc.nd rfl (Or.inl rfl) (@pe_op _ _ _ _ _ _ _ _ op_add (pv 1) pe_int) (by rfl) (by first | exact .inl rfl | exact .inr rfl | assumption)))))) (@pss_one _ _ _ (@ps_ret _ _ _ _ (pv 0))))), ?_⟩
    refine ⟨fun m σ H' => ∃ (u : List L) (j : Nat), σ = [some (tx u), some (.int j)] ∧ Same H H' ∧ red u = red u0 ∧ RdTo (j + 1) u ∧ u.length ≤ 5000 ∧ m = 2 * u.length - j, ⟨_, u0, 0, rfl, Same.refl _, rfl, (fun i x y hi => by omega), hu, rfl⟩, ?_⟩
    rintro m σ H1 ⟨u, j, rfl, s1, hr0, hrd, hlu, rfl⟩
    refine ⟨_, rfl, _, _, rfl, rfl, _, rfl, _, rfl, (by rw [toS_length]; omega), _, _, rfl, rfl, _, rfl, ?_⟩
    rw [toS_length]
    refine ite2 (fun h => ?_) (fun h => ?_)
    · have h : j + 1 < u.length := by
        have h : (j : Int) + 1 < (u.length : Int) := by simpa using h
        omega
      have hx : u[j]? = some u[j] := List.getElem?_eq_getElem (by omega)
      have hy : u[j + 1]? = some u[j + 1] := List.getElem?_eq_getElem h
      generalize u[j] = x at hx
      generalize u[j + 1] = y at hy
      refine ⟨_, fun σ' H' q => q, ?_⟩
      refine ⟨_, rfl, _, rfl, _, _, rfl, rfl, _, _, cp y, rfl, rfl, (by rw [toS_length]; omega), atI_toS (k := j + 1) (by omega) hy, ?_⟩
      refine ⟨_, rfl, _, rfl, _, _, cp x, rfl, rfl, (by rw [toS_length]; omega), atI_toS (k := j) rfl hx, [x], rfl, (by show 1 ≤ 5000; decide), fun H2 s2 => ?_⟩
      refine ⟨rfl, _, rfl, ?_⟩
      show if decide (tx [y] = tx (bk [x])) = true then _ else _
      rw [dec_tx, bk_one]
      refine ite2 (fun h2 => ?_) (fun h2 => ?_)
      · have h2 : y = inv x := by simpa using h2
        subst h2
        refine ⟨_, rfl, _, rfl, _, rfl, _, rfl, (by rw [toS_length]; omega), _, rfl, _, rfl, _, _, rfl, rfl, _, rfl, _, rfl, (by rw [toS_length]; omega), _, _, rfl, rfl, ?_, ?_⟩
        · rw [slice_toS, slice_toS, toS_length, toS_length]
          have h1 := cut_length u none (some (j : Int))
          have h2 := cut_length u (some ((j : Int) + 2)) none
          omega
        · refine ⟨_, rfl, _, _, rfl, rfl, _, _, rfl, ?_⟩
          have el : (u.take j ++ u.drop (j + 2)).length = u.length - 2 := by rw [List.length_append, List.length_take, List.length_drop]; omega
          refine ⟨2 * (u.take j ++ u.drop (j + 2)).length - (j - 1), by omega, u.take j ++ u.drop (j + 2), j - 1, ?_, s1.trans s2, by rw [red_cut hx hy]; exact hr0, rdTo_cut hrd, by omega, rfl⟩
          rw [slice_toS, slice_toS, cut_to u (by omega), cut_from u (by omega), tx_app]
          have e1 : ((j : Int)).toNat = j := by omega
          have e2 : ((j : Int) + 2).toNat = j + 2 := by omega
          have e3 : (if ((j : Int) - 1) > 0 then ((j : Int) - 1) else 0) = ((j - 1 : Nat) : Int) := by split <;> omega
          rw [e1, e2, e3]
          rfl
      · have h2 : ¬ y = inv x := by simpa using h2
        refine ⟨_, rfl, _, _, rfl, rfl, ?_⟩
        exact ⟨2 * u.length - j - 1, by omega, u, j + 1, rfl, s1.trans s2, hr0, rdTo_grow hrd (fun a b ha hb => by rw [hx] at ha; rw [hy] at hb; cases ha; cases hb; exact h2), hlu, by omega⟩
    · have h : ¬ j + 1 < u.length := by
        have h : ¬ (j : Int) + 1 < (u.length : Int) := by simpa using h
        omega
      refine ⟨_, rfl, ?_⟩
      have e : red u0 = u := by rw [← hr0, red_of_rdTo (by omega) hrd]
      rw [← e]
      exact k _ s1
end
end Kx
set_option Elab.async false
set_option linter.all false
set_option maxRecDepth 100000
set_option maxHeartbeats 0
namespace Kx
open PySem PySem.Spec PyProof.Rows L2 Wd
section
variable {P : Program} {w : World} {K : PySem.W.Frag} {mg : Str → Option Value} {base : Heap} {aB : Addr}
noncomputable abbrev s_some : Stmt := top 37
theorem sc_some : FnScope ["_law_feed_here", "_law_many", "_law_most", "_law_signs"] ["_law_feed_here", "_law_many", "_law_most"] (defScope s_some) := ⟨rfl, rfl, rfl, by decide +kernel, rfl, by decide +kernel, by decide +kernel⟩
theorem c_some (D : Df K mg "_law_some" s_some) (T : Bt K w mg aB) (F_draw : Fnc P w K mg base "_law_draw" ["_law_feed_here", "_law_many"] 1 spDraw) : Fnc P w K mg base "_law_some" ["_law_feed_here", "_law_many", "_law_most"] 2 spSome := by
  have sc := sc_some
  refine D.ok sc (fun _ _ _ _ _ _ us hl => by obtain ⟨_, _, _, rfl⟩ := len3 hl; rfl) (fun vs H Q E h => ?_) (fun f cdv A outer s H vs Q E hr h => ?_)
  · obtain ⟨d, m, n, rfl, _⟩ := h
    rfl
  · obtain ⟨d, m, n, rfl, F, m1, m2, n1, n2, k⟩ := h
    have l16 := line16
    refine ⟨_, (@pss_cons _ _ _ _ _ (@ps_set _ _ (3) _ _ _ _ sc.nd rfl (Or.inr rfl) (@pe_op _ _ _ _ _ _ _ _ op_add_str (@pe_slice _ _ _ _ _ _ _ _ _ _ sl_str pe_str po_none (@po_some _ _ _ (pv 1))) (@pe_slice _ _ _ _ _ _ _ _ _ _ sl_str pe_str po_none (@po_some _ _ _ (pv 1)))) (by rfl) (by first | exact .inl rfl | exact .inr rfl | assumption)) (@pss_one _ _ _ (@ps_ret _ _ _ _ (@pe_bm _ _ _ _ _ _ _ _ _ _ _ _ PySem.F.plainAttrs_str PySem.F.slot_str_join PySem.F.type_str_join mt_join pe_str (@pa_cons _ _ _ _ _ (@pe_comp _ _ _ _ _ _ _ (["_law_k", "_law_signs", "_law_feed_here", "_law_many"]) (["_law_k"]) ([3, 0, 1]) _ _ _ _ (@blk_of _ _ _ _ _ _ rfl (by kernel_rfl)) rfl (@pi_range1 _ _ _ _ _ _ rfl T.range (@pa_cons _ _ _ _ _ (@pe_fn _ _ _ _ _ _ _ _ _ _ _ F_draw hr (by decide) rfl (@pa_cons _ _ _ _ _ (pv 0) (@pa_cons _ _ _ _ _ (@pe_op _ _ _ _ _ _ _ _ op_add (pv 2) pe_int) pa_nil (by rfl)) (by rfl)) (by decide) (by rfl) (by rfl)) pa_nil (by rfl)) (by rfl)) (fun _ _ _ _ => @pg_name _ _ (0) _ (show (["_law_k", "_law_signs", "_law_feed_here", "_law_many"] : List Str).Nodup from by decide +kernel) rfl (Or.inl rfl) (by first | exact .inl rfl | exact .inr rfl | assumption)) (fun _ _ _ _ => pifs_nil) (fun _ _ _ _ => by (exact (@pe_ix _ _ _ _ _ _ _ ix_str (pv 1) (@pe_fn _ _ _ _ _ _ _ _ _ _ _ F_draw hr (by decide) rfl (@pa_cons _ _ _ _ _ (pv 2) (@pa_cons _ _ _ _ _ (@pe_op _ _ _ _ _ _ _ _ op_mul pe_int (pv 3)) pa_nil (by rfl)) (by rfl)) (by decide) (by rfl) (by rfl)) (fun _ _ => rfl)))) (by intro _ ; rfl)) pa_nil (by rfl)) (by rfl) (by rfl) (by rfl) (by rfl) (by rfl))))), ?_⟩
    refine ⟨_, rfl, _, rfl, _, rfl, (by rw [len_sm]; omega), _, rfl, _, rfl, _, rfl, (by rw [len_bg]; omega), _, _, rfl, rfl, ?_, ?_⟩
    · have h1 := Txt.slice_le ("abcdef" : Str) none (some m)
      have h2 := Txt.slice_le ("ABCDEF" : Str) none (some m)
      rw [len_sm] at h1
      rw [len_bg] at h2
      omega
    rw [slice_sg m1]
    refine ⟨rfl, _, rfl, _, rfl, _, _, rfl, rfl, d, _, rfl, F, by omega, by omega, fun r H1 r0 r1 F1 sb1 => ?_⟩
    refine ⟨_, rfl, by omega, by omega, ?_⟩
    refine comp_by (own := ["_law_k"]) (cap := [3, 0, 1]) (J := Itr 0 r.toNat) r.toNat (fun i ys σ H' => ∃ (v : Option V) (W : List L), σ = [v, some (tx (sg m)), some (.ref d), some (.int m)] ∧ ys = ones W ∧ W.length = i ∧ Fd H' d ∧ SameB d H H')
      ⟨none, [], rfl, rfl, rfl, F1, sb1⟩ (fun i ys σ H' hi ⟨v, W, _, e, e2, _⟩ => by rw [e, ones_length, e2]; exact Nat.le_refl _) (by omega) (fun i ys σ H' hi _ => hi) (fun ys σ H' _ => Nat.le_refl _) ?_ ?_
    · rintro i ys σ H2 x H3 N hi ⟨v, W, rfl, rfl, hW, F2, sb2⟩ ⟨rfl, rfl⟩ hN
      refine ⟨_, rfl, _, rfl, _, rfl, _, _, rfl, rfl, .inl ⟨by decide, by decide⟩, d, _, rfl, F2, by omega, by omega, fun q H4 q0 q1 F4 sb4 => ?_⟩
      have hq : q.toNat < (sg m).length := by rw [sg_length m1 m2]; omega
      refine ⟨_, _, cp (sg m)[q.toNat], rfl, rfl, (by rw [toS_length, sg_length m1 m2]; omega), atI_toS (k := q.toNat) (by omega) (List.getElem?_eq_getElem hq), hN _ _ _ ⟨_, W ++ [(sg m)[q.toNat]], rfl, (ones_snoc _ _), by rw [List.length_append, hW]; rfl, F4, sb2.trans sb4⟩⟩
    · rintro ys σ H2 l ⟨v, W, rfl, rfl, hW, F2, sb2⟩ hl
      refine ⟨_, l, W.map fun x => toS [x], rfl, rfl, SqL.of (by rw [upd_same, ones_str]), join_room _ (by omega), ?_⟩
      rw [join_ones]
      exact k _ _ (by omega) (F2.new hl) (sb2.trans (Same.new hl).b)
end
end Kx
set_option Elab.async false
set_option linter.all false
set_option maxRecDepth 100000
set_option maxHeartbeats 0
namespace Kx
open PySem PySem.Spec PyProof.Rows L2 Wd
inductive Core : List L → List L → List L × List L → Prop where
  | stop (f m : List L) : (∀ x mid, m ≠ x :: (mid ++ [inv x])) → Core f m (f, m)
  | step (f : List L) (x : L) (mid : List L) (r : List L × List L) : Core (f ++ [x]) mid r → Core f (x :: (mid ++ [inv x])) r
theorem Core.one : ∀ {f m : List L} {r q : List L × List L}, Core f m r → Core f m q → r = q := by
  intro f m r q h
  induction h generalizing q with
  | stop f m hn =>
    intro h2
    cases h2 with
    | stop _ _ _ => rfl
    | step _ x mid _ _ => exact absurd rfl (hn x mid)
  | step f x mid r h ih =>
    intro h2
    generalize em : x :: (mid ++ [inv x]) = m at h2
    cases h2 with
    | stop _ _ hn => exact absurd em.symm (hn x mid)
    | step _ x' mid' _ h' =>
      have e1 : x = x' := (List.cons.inj em).1
      subst e1
      have e2 : mid = mid' := List.append_cancel_right (List.cons.inj em).2
      subst e2
      exact ih h'
theorem core_front {x : L} {mid : List L} : (x :: (mid ++ [inv x]) : List L).length = mid.length + 2 := by simp
theorem cut_ends2 (x z : L) (mid : List L) : cutL (x :: (mid ++ [z])) (some 1) (some (((x :: (mid ++ [z]) : List L).length : Int) - 1)) = mid := by
  unfold cutL
  have e1 : HT.sIx (x :: (mid ++ [z])).length 0 (some 1) = 1 := by
    have q := HT.sIx_nat (x :: (mid ++ [z])).length 0 1
    rw [show ((1 : Nat) : Int) = 1 from rfl] at q
    rw [q]
    simp
  have e2 : HT.sIx (x :: (mid ++ [z])).length (x :: (mid ++ [z])).length (some (((x :: (mid ++ [z]) : List L).length : Int) - 1)) = mid.length + 1 := by
    have : (((x :: (mid ++ [z]) : List L).length : Int) - 1) = ((mid.length + 1 : Nat) : Int) := by
      have : (x :: (mid ++ [z]) : List L).length = mid.length + 2 := by simp
      omega
    rw [this, HT.sIx_nat]
    simp
  rw [e1, e2]
  simp
theorem ends_of (x : L) (r : List L) (h : r ≠ []) : ∃ mid z, r = mid ++ [z] := ⟨r.dropLast, r.getLast h, (List.dropLast_concat_getLast h).symm⟩
noncomputable def spCore : Sp := fun vs H Q _ => ∃ w, vs = [tx w] ∧ w.length ≤ 2000 ∧ ∀ (f m : List L) (p : Addr) (H' : Hp), Core [] (red w) (f, m) → f.length + m.length ≤ 5000 → H' p = some (.tup [tx f, tx m]) → Same H H' → Q (.ref p) H'
theorem rots_long {w v : List L} (h : v ∈ rots w) : v.length = w.length := by
  obtain ⟨i, hi, rfl⟩ := List.mem_map.mp h
  rw [List.length_append, List.length_drop, List.length_take]
  omega
noncomputable def spLeast : Sp := fun vs H Q _ => ∃ w, vs = [tx w] ∧ w.length ≤ 2000 ∧ ∀ (m : Str) (H' : Hp), Least m ((rots w).map toS) → Same H H' → Q (.str m) H'
noncomputable def spLeastP : Sp := fun vs H Q _ => ∃ w, vs = [tx w] ∧ w.length ≤ 2000 ∧ ∀ p : Nat, p ≤ w.length → Least (toS (w.drop p ++ w.take p)) ((rots w).map toS) → Q (.int (p : Int)) H
theorem core_spec {f0 x : List L} {r : List L × List L} (h : Core f0 x r) : ∃ g, r.1 = f0 ++ g ∧ x = g ++ r.2 ++ bk g ∧ ∀ y mid, r.2 ≠ y :: (mid ++ [inv y]) := by
  induction h with
  | stop f m hn => exact ⟨[], by simp, by simp [bk], hn⟩
  | step f x mid r h ih =>
    obtain ⟨g, h1, h2, h3⟩ := ih
    refine ⟨x :: g, by rw [h1]; simp, ?_, h3⟩
    rw [bk_cons, h2]
    simp
theorem core_rnd {x f m : List L} (h : Core [] x (f, m)) (hx : Rd x) : x = f ++ m ++ bk f ∧ (m ≠ [] → Rnd m) := by
  obtain ⟨g, h1, h2, h3⟩ := core_spec h
  have h1 : f = g := h1
  have h2 : x = g ++ m ++ bk g := h2
  have h3 : ∀ y mid, m ≠ y :: (mid ++ [inv y]) := h3
  subst h1
  refine ⟨h2, fun hne => ?_⟩
  rw [h2, rd_append, rd_append] at hx
  refine ⟨hne, hx.1.2.1, fun a b ha hb => ?_⟩
  cases m with
  | nil => exact absurd rfl hne
  | cons y r =>
    have hb : y = b := Option.some.inj hb
    subst hb
    by_cases hr : r = []
    · subst hr
      have ha : y = a := Option.some.inj ha
      subst ha
      exact fun e => inv_ne _ e.symm
    · obtain ⟨mid, z, hz⟩ := ends_of y r hr
      subst hz
      have ha : z = a := by
        rw [List.getLast?_cons] at ha
        simpa using ha
      subst ha
      intro e
      exact h3 y mid (by rw [inv_eq e])
noncomputable def spLM : Sp := fun vs H Q _ => ∃ w, vs = [tx w] ∧ w.length ≤ 2000 ∧ ∀ (m : Str) (f md : List L) (H' : Hp), Core [] (red w) (f, md) → Least m ((rots md).map toS) → Same H H' → Q (.str m) H'
theorem core_sub : ∀ {f m : List L} {r : List L × List L}, Core f m r → (∀ x ∈ r.2, x ∈ m) ∧ r.1.length + r.2.length ≤ f.length + m.length ∧ r.2.length ≤ m.length := by
  intro f m r h
  induction h with
  | stop f m hn => exact ⟨fun x hx => hx, Nat.le_refl _, Nat.le_refl _⟩
  | step f x mid r h ih =>
    obtain ⟨h1, h2, h3⟩ := ih
    rw [List.length_append, List.length_singleton] at h2
    rw [core_front]
    exact ⟨fun y hy => List.mem_cons_of_mem _ (List.mem_append_left _ (h1 y hy)), by omega, by omega⟩
noncomputable def LMof (u : List L) (a : Str) : Prop := ∃ f m, Core [] (red u) (f, m) ∧ Least a ((rots m).map toS)
theorem LMof.one {u : List L} {a b : Str} (h : LMof u a) (g : LMof u b) : a = b := by
  obtain ⟨f, m, c, l⟩ := h
  obtain ⟨f', m', c', l'⟩ := g
  obtain ⟨rfl, rfl⟩ := Prod.mk.inj (c.one c')
  exact l.one l'
theorem LMof.word {u : List L} {a : Str} (h : LMof u a) : ∃ w, a = toS w ∧ w.length ≤ u.length := by
  obtain ⟨f, m, c, l⟩ := h
  obtain ⟨v, hv, rfl⟩ := List.mem_map.mp l.1
  refine ⟨v, rfl, ?_⟩
  rw [rots_long hv]
  have := (core_sub c).2.2
  have h2 := red_length u
  exact Nat.le_trans this h2
theorem LMof.cj {u v : List L} {a b : Str} (h : LMof u a) (g : LMof v b) : a = b ↔ Cj u v := by
  obtain ⟨f, m, c, l⟩ := h
  obtain ⟨f', m', c', l'⟩ := g
  obtain ⟨e1, r1⟩ := core_rnd c (rd_red u)
  obtain ⟨e2, r2⟩ := core_rnd c' (rd_red v)
  rw [least_rt l l', cj_mid e1 e2 r1 r2]
theorem find_rt {m p : List L} (h : Rt m p) : ∃ i : Nat, i ≤ m.length ∧ Txt.find (toS (m ++ m)) (toS p) = (i : Int) ∧ p = m.drop i ++ m.take i := by
  have hl := h.len
  have key : ∀ i, i ≤ m.length → ((m ++ m).drop i).take p.length = m.drop i ++ m.take i := fun i hi => by
    rw [List.drop_append_of_le_length hi, List.take_append, List.length_drop, ← hl]
    have e : m.length - (m.length - i) = i := by omega
    rw [e, List.take_of_length_le (by rw [List.length_drop]; omega)]
  have at_ : ∀ i, StrLaws.At (toS (m ++ m)) (toS p) (toS (m ++ m)).length i ↔ (i ≤ m.length ∧ m.drop i ++ m.take i = p) := fun i => by
    unfold StrLaws.At
    rw [toS_length, toS_length, List.length_append, StrLaws.subAt_eq, toS_length, toS_cps, toS_cps, beq_iff_eq, ← List.map_drop, ← List.map_take]
    constructor
    · rintro ⟨h1, h2⟩
      have hi : i ≤ m.length := by omega
      refine ⟨hi, ?_⟩
      rw [← key i hi]
      exact map_cp_inj h2
    · rintro ⟨h1, h2⟩
      refine ⟨by omega, ?_⟩
      rw [key i h1, h2]
  obtain ⟨a, b, rfl, rfl⟩ := h
  rcases PyProof.Rows.find_whole (toS (a ++ b ++ (a ++ b))) (toS (b ++ a)) with ⟨_, hn⟩ | ⟨i, h1, h2, _⟩
  · exact absurd ((at_ a.length).mpr ⟨by rw [List.length_append]; omega, by rw [List.drop_left' rfl, List.take_left' rfl]⟩) (hn a.length)
  · obtain ⟨h3, h4⟩ := (at_ i).mp h2
    exact ⟨i, h3, h1, h4.symm⟩
theorem turn_by {u v f m g p : List L} {i : Nat} (eu : red u = f ++ m ++ bk f) (ev : red v = g ++ p ++ bk g) (hp : p = m.drop i ++ m.take i) : Eqv (red (g ++ bk (m.take i) ++ bk f) ++ u ++ bk (red (g ++ bk (m.take i) ++ bk f))) v := by
  have hu : Eqv u (f ++ m ++ bk f) := by rw [← eu]; exact (eqv_red u).symm
  have hv : Eqv v (g ++ p ++ bk g) := by rw [← ev]; exact (eqv_red v).symm
  have h1 : Eqv (red (g ++ bk (m.take i) ++ bk f) ++ u ++ bk (red (g ++ bk (m.take i) ++ bk f))) ((g ++ bk (m.take i) ++ bk f) ++ (f ++ m ++ bk f) ++ bk (g ++ bk (m.take i) ++ bk f)) := ((eqv_red _).app hu).app (eqv_bk_of (eqv_red _))
  refine (h1.trans ?_).trans hv.symm
  have e1 : bk (g ++ bk (m.take i) ++ bk f) = f ++ (m.take i ++ bk g) := by rw [bk_append, bk_append, bk_bk, bk_bk]
  rw [e1]
  have e2 : Eqv ((g ++ bk (m.take i) ++ bk f) ++ (f ++ m ++ bk f) ++ (f ++ (m.take i ++ bk g))) ((g ++ bk (m.take i)) ++ m ++ bk f ++ (f ++ (m.take i ++ bk g))) := by
    have := eqv_out (g ++ bk (m.take i)) f (m ++ bk f ++ (f ++ (m.take i ++ bk g)))
    simpa using this
  refine e2.trans ?_
  have e3 : Eqv ((g ++ bk (m.take i)) ++ m ++ bk f ++ (f ++ (m.take i ++ bk g))) ((g ++ bk (m.take i)) ++ m ++ (m.take i ++ bk g)) := by
    have := eqv_out ((g ++ bk (m.take i)) ++ m) f (m.take i ++ bk g)
    simpa using this
  refine e3.trans ?_
  have e4 : Eqv ((g ++ bk (m.take i)) ++ m ++ (m.take i ++ bk g)) (g ++ m.drop i ++ (m.take i ++ bk g)) := by
    have := eqv_out g (m.take i) (m.drop i ++ (m.take i ++ bk g))
    have em : m = m.take i ++ m.drop i := (List.take_append_drop i m).symm
    have : Eqv (g ++ (bk (m.take i) ++ (m.take i ++ (m.drop i ++ (m.take i ++ bk g))))) (g ++ (m.drop i ++ (m.take i ++ bk g))) := by simpa using this
    have e5 : (g ++ bk (m.take i)) ++ m ++ (m.take i ++ bk g) = g ++ (bk (m.take i) ++ (m.take i ++ (m.drop i ++ (m.take i ++ bk g)))) := by
      conv => lhs; rw [show (g ++ bk (m.take i)) ++ m = (g ++ bk (m.take i)) ++ (m.take i ++ m.drop i) by rw [List.take_append_drop]]
      simp only [List.append_assoc]
    rw [e5]
    refine this.trans ?_
    rw [List.append_assoc]
    exact Eqv.refl _
  refine e4.trans ?_
  rw [hp]
  have : g ++ m.drop i ++ (m.take i ++ bk g) = g ++ (m.drop i ++ m.take i) ++ bk g := by simp
  rw [this]
  exact Eqv.refl _
inductive Pp (H : Hp) (t : Addr) (u v : List L) : Prop
  | al (y : List L) (h : H t = some (.tup [.str "alike", tx y])) (hl : y.length ≤ u.length + v.length) (e : Eqv (y ++ u ++ bk y) v)
  | un (a b : Str) (h : H t = some (.tup [.str "unlike", .str a, .str b])) (ha : LMof u a) (hb : LMof v b) (ne : a ≠ b)
noncomputable def spTurning : Sp := fun vs H Q _ => ∃ u v : List L, vs = [tx u, tx v] ∧ u.length ≤ 210 ∧ v.length ≤ 210 ∧ ∀ (t : Addr) (H' : Hp), Same H H' → Pp H' t u v → Q (.ref t) H'
inductive spDrawnN (vs : List V) (H : Hp) (Q : VK) (u3_ : XK) : Prop
  | mk : ∀ (d : Addr) (m n : Int), (vs = [.ref d, .int m, .int n]) → (Fd H d) → (1 ≤ m) → (m ≤ 6) → (4 ≤ n) → (n ≤ 40) → (∀ (u : List L) (H' : Hp), u.length ≤ n.toNat → Fd H' d → SameB d H H' → Q (tx u) H') → spDrawnN vs H Q u3_
noncomputable def luO (a b s1 s2 : Str) : Option Nat := if s1 ≠ a then some 0 else if s2 ≠ b then some 1 else if s1 = s2 then some 2 else none
inductive spLU3 (C : Addr) (vs : List V) (H : Hp) (Q : VK) (E : XK) : Prop
  | mk : ∀ (u v : List L) (a b s1 s2 : Str), (vs = [tx u, tx v, .str s1, .str s2]) → (u.length ≤ 500) → (v.length ≤ 500) → (LMof u a) → (LMof v b) → (luO a b s1 s2 = none → ∀ H', Same H H' → Q .non H') → (∀ k, luO a b s1 s2 = some k → ∀ e H', XP C H' e "turn" k → Same H H' → E (.ref e) none H') → spLU3 C vs H Q E
inductive spLets3 (C : Addr) (vs : List V) (H : Hp) (Q : VK) (E : XK) : Prop
  | mk : ∀ (u v : List L) (a b : Str) (x : V) (o : Option (List V)), (vs = [tx u, tx v, x]) → (u.length ≤ 210) → (v.length ≤ 210) → (LMof u a) → (LMof v b) → (T3 H x o) → (out3 u v a b o = none → ∀ H', Same H H' → Q (.bl true) H') → (∀ z k, out3 u v a b o = some (z, k) → ∀ e H', XP C H' e z k → Same H H' → E (.ref e) none H') → spLets3 C vs H Q E
inductive spTold3 (vs : List V) (H : Hp) (Q : VK) (u3_ : XK) : Prop
  | mk : ∀ (u v : List L) (a b : Str) (x : V) (o : Option (List V)), (vs = [tx u, tx v, x]) → (u.length ≤ 60) → (v.length ≤ 60) → (LMof u a) → (LMof v b) → (T3 H x o) → (∀ r H', Dt H' r (outD (out3 u v a b o)) → Same H H' → (out3 u v a b o = none → r = .bl true) → Q r H') → spTold3 vs H Q u3_
inductive spLL (vs : List V) (H : Hp) (Q : VK) (u3_ : XK) : Prop
  | mk : ∀ (w : List L), (vs = [tx w]) → (w.length ≤ 60) → (∀ a H', LMof w a → Same H H' → Q (.str a) H') → spLL vs H Q u3_
inductive spBent3 (vs : List V) (H : Hp) (Q : VK) (u3_ : XK) : Prop
  | mk : ∀ (d t : Addr) (xs : List V), (vs = [.ref d, .ref t]) → (Fd H d) → (H t = some (.tup xs)) → (∀ y ∈ xs, E3 H y) → (xs.length ≤ 4) → (∀ y o H', T3 H' y o → Fd H' d → SameB d H H' → Q y H') → spBent3 vs H Q u3_
inductive S3 (H : Hp) (j : Nat) : V → Prop
  | str (z : Str) (h : z.length ≤ 100 + 10 * j) (hc : (PyData.str z).canLay0 = true) : S3 H j (.str z)
  | zero (h : 1 ≤ j) : S3 H j (.int 0)
  | any {x : V} (h : 2 ≤ j) (e : E3 H x) : S3 H j x
inductive U3 (H : Hp) (j : Nat) : V → Prop
  | tup {a : Addr} {xs : List V} (h : H a = some (.tup xs)) (p : ∀ y ∈ xs, S3 H j y) (hl : xs.length ≤ 4 * 3 ^ j) : U3 H j (.ref a)
  | lst {a : Addr} {xs : List V} (h : H a = some (.lst xs)) (hj : 1 ≤ j) : U3 H j (.ref a)
  | non (hj : 2 ≤ j) : U3 H j .non
theorem S3.e {H : Hp} {j : Nat} (hj : j ≤ 2) {x : V} (h : S3 H j x) : E3 H x := by
  cases h with
  | str z h hc => exact .str z ⟨by omega, hc⟩
  | zero h => exact .int 0
  | any h e => exact e
theorem S3.mono {H H' : Hp} {j : Nat} {x : V} (h : S3 H j x) (f : E3 H x → E3 H' x) : S3 H' j x := by
  cases h with
  | str z h hc => exact .str z h hc
  | zero h => exact .zero h
  | any h e => exact .any h (f e)
theorem S3.up {H : Hp} {j : Nat} {x : V} (h : S3 H j x) : S3 H (j + 1) x := by
  cases h with
  | str z h hc => exact .str z (by omega) hc
  | zero h => exact .zero (by omega)
  | any h e => exact .any (by omega) e
theorem U3.t {H : Hp} {j : Nat} (hj : j ≤ 2) {x : V} (h : U3 H j x) : ∃ o, T3 H x o := by
  cases h with
  | tup h p hl => exact ⟨_, .tup h (fun y hy => (p y hy).e hj) (by
    have : j = 0 ∨ j = 1 ∨ j = 2 := by omega
    rcases this with rfl | rfl | rfl <;> omega)⟩
  | lst h _ => exact ⟨_, .lst h⟩
  | non _ => exact ⟨_, .non⟩
theorem U3.same {H H' : Hp} {j : Nat} {x : V} (s : Same H H') (h : U3 H j x) : U3 H' j x := by
  cases h with
  | tup h p hl => exact .tup (s _ _ h) (fun y hy => (p y hy).mono fun e => e.same s) hl
  | lst h q => exact .lst (s _ _ h) q
  | non q => exact .non q
theorem U3.sb {H H' : Hp} {f : Addr} {j : Nat} {x : V} (F : Fd H f) (s : SameB f H H') (h : U3 H j x) : U3 H' j x := by
  cases h with
  | tup h p hl => exact .tup (s _ _ (F.neT h) h) (fun y hy => (p y hy).mono fun e => e.sb F s) hl
  | lst h q => exact .lst (s _ _ (F.nl h) h) q
  | non q => exact .non q
inductive spSpE (vs : List V) (H : Hp) (Q : VK) (u3_ : XK) : Prop
  | mk : ∀ (d : Addr) (j : Nat) (x : V), (vs = [.ref d, x]) → (Fd H d) → (j ≤ 1) → (S3 H j x) → (∀ y H', S3 H' (j + 1) y → Fd H' d → SameB d H H' → Q y H') → spSpE vs H Q u3_
inductive spSpT (vs : List V) (H : Hp) (Q : VK) (u3_ : XK) : Prop
  | mk : ∀ (d : Addr) (j : Nat) (x : V), (vs = [.ref d, x]) → (Fd H d) → (j ≤ 1) → (U3 H j x) → (∀ y H', U3 H' (j + 1) y → Fd H' d → SameB d H H' → Q y H') → spSpT vs H Q u3_
end Kx
set_option Elab.async false
set_option linter.all false
set_option maxRecDepth 100000
set_option maxHeartbeats 0
namespace Kx
open PySem PySem.Spec PyProof.Rows L2 Wd
section
variable {P : Program} {w : World} {K : PySem.W.Frag} {mg : Str → Option Value} {base : Heap} {aB : Addr}
noncomputable abbrev s_drawn : Stmt := top 38
theorem sc_drawn : FnScope ["_law_feed_here", "_law_many", "_law_most", "_law_way", "_law_one", "_law_k", "_law_at", "_law_sign_here", "_law_other"] ["_law_feed_here", "_law_many", "_law_most"] (defScope s_drawn) := ⟨rfl, rfl, rfl, by decide +kernel, rfl, by decide +kernel, by decide +kernel⟩
theorem c_drawn (D : Df K mg "_law_drawn" s_drawn) (T : Bt K w mg aB) (F_draw : Fnc P w K mg base "_law_draw" ["_law_feed_here", "_law_many"] 1 spDraw) (F_lback : Fnc P w K mg base "_law_back" ["_law_word"] 1 spBk)
    (F_some : Fnc P w K mg base "_law_some" ["_law_feed_here", "_law_many", "_law_most"] 2 spSome) : Fnc P w K mg base "_law_drawn" ["_law_feed_here", "_law_many", "_law_most"] 3 spDrawnN := by
  have sc := sc_drawn
  refine D.ok sc (fun _ _ _ _ _ _ us hl => by obtain ⟨_, _, _, rfl⟩ := len3 hl; rfl) (fun vs H Q E h => ?_) (fun f cdv A outer s H vs Q E hr h => ?_)
  · obtain ⟨d, m, n, rfl, _⟩ := h
    rfl
  · obtain ⟨d, m, n, rfl, F, m1, m2, n1, n2, k⟩ := h
    have l16 := line16
    refine ⟨_, (@pss_cons _ _ _ _ _ (@ps_set _ _ (3) _ _ _ _ sc.nd rfl (Or.inl rfl) (@pe_fn _ _ _ _ _ _ _ _ _ _ _ F_draw hr (by decide) rfl (@pa_cons _ _ _ _ _ (pv 0) (@pa_cons _ _ _ _ _ pe_int pa_nil (by rfl)) (by rfl)) (by decide) (by rfl) (by rfl)) (by rfl) (by first | exact .inl rfl | exact .inr rfl | assumption)) (@pss_cons _ _ _ _ _ (@ps_set _ _ (4) _ _ _ _ sc.nd rfl (Or.inl rfl) (@pe_fn _ _ _ _ _ _ _ _ _ _ _ F_some hr (by decide) rfl (@pa_cons _ _ _ _ _ (pv 0) (@pa_cons _ _ _ _ _ (pv 1) (@pa_cons _ _ _ _ _ (@pe_ifExp _ _ _ _ _ _ _ _ (@pt_cmpR _ _ _ _ _ _ _ _ op_eq (pv 3) pe_int (nomark _)) (pv 2) (@pe_op _ _ _ _ _ _ _ _ op_fdiv (pv 2) pe_int)) pa_nil (by rfl)) (by rfl)) (by rfl)) (by decide) (by rfl) (by rfl)) (by rfl) (by first | exact .inl rfl | exact .inr rfl | assumption)) (@pss_cons _ _ _ _ _ (@ps_if _ _ _ _ _ _ _ _ (@pt_cmpR _ _ _ _ _ _ _ _ op_eq (pv 3) pe_int (nomark _)) (@pss_one _ _ _ (@ps_for _ _ _ _ _ _ _ _ PassesOwn.never rfl (@pi_range1 _ _ _ _ _ _ rfl T.range (@pa_cons _ _ _ _ _ (@pe_op _ _ _ _ _ _ _ _ op_add pe_int (@pe_fn _ _ _ _ _ _ _ _ _ _ _ F_draw hr (by decide) rfl (@pa_cons _ _ _ _ _ (pv 0) (@pa_cons _ _ _ _ _ (@pe_op _ _ _ _ _ _ _ _ op_fdiv (pv 2) pe_int) pa_nil (by rfl)) (by rfl)) (by decide) (by rfl) (by rfl))) pa_nil (by rfl)) (by rfl)) (@pg_name _ _ (5) _ sc.nd rfl (Or.inl rfl) (by first | exact .inl rfl | exact .inr rfl | assumption)) (@pss_cons _ _ _ _ _ (@ps_set _ _ (6) _ _ _ _ sc.nd rfl (Or.inl rfl) (@pe_fn _ _ _ _ _ _ _ _ _ _ _ F_draw hr (by decide) rfl (@pa_cons _ _ _ _ _ (pv 0) (@pa_cons _ _ _ _ _ (@pe_op _ _ _ _ _ _ _ _ op_add (@pe_callB _ _ _ _ _ _ _ _ _ call_len_str (by rfl) T.len PySem.boot_len (@pa_cons _ _ _ _ _ (pv 4) pa_nil (by rfl)) (by decide) (by decide) (by rfl) (by rfl)) pe_int) pa_nil (by rfl)) (by rfl)) (by decide) (by rfl) (by rfl)) (by rfl) (by first | exact .inl rfl | exact .inr rfl | assumption)) (@pss_cons _ _ _ _ _ (@ps_set _ _ (7) _ _ _ _ sc.nd rfl (Or.inl rfl) (@pe_ix _ _ _ _ _ _ _ ix_str pe_str (@pe_fn _ _ _ _ _ _ _ _ _ _ _ F_draw hr (by decide) rfl (@pa_cons _ _ _ _ _ (pv 0) (@pa_cons _ _ _ _ _ (pv 1) pa_nil (by rfl)) (by rfl)) (by decide) (by rfl) (by rfl)) (fun _ _ => rfl)) (by rfl) (by first | exact .inl rfl | exact .inr rfl | assumption)) (@pss_cons _ _ _ _ _ (@ps_set _ _ (7) _ _ _ _ sc.nd rfl (Or.inl rfl) (@pe_ix _ _ _ _ _ _ _ ix_list (@pe_lst _ _ _ _ (@pa_cons _ _ _ _ _ (pv 7) (@pa_cons _ _ _ _ _ (@pe_bm0 _ _ _ _ _ _ _ _ _ PySem.F.plainAttrs_str PySem.F.slot_str_upper PySem.F.type_str_upper mt_upper (pv 7) (by rfl) (by rfl)) pa_nil (by rfl)) (by rfl))) (@pe_fn _ _ _ _ _ _ _ _ _ _ _ F_draw hr (by decide) rfl (@pa_cons _ _ _ _ _ (pv 0) (@pa_cons _ _ _ _ _ pe_int pa_nil (by rfl)) (by rfl)) (by decide) (by rfl) (by rfl)) (fun _ _ => rfl)) (by rfl) (by first | exact .inl rfl | exact .inr rfl | assumption)) (@pss_one _ _ _ (@ps_set _ _ (4) _ _ _ _ sc.nd rfl (Or.inl rfl) (@pe_op _ _ _ _ _ _ _ _ op_add_str (@pe_op _ _ _ _ _ _ _ _ op_add_str (@pe_op _ _ _ _ _ _ _ _ op_add_str (@pe_slice _ _ _ _ _ _ _ _ _ _ sl_str (pv 4) po_none (@po_some _ _ _ (pv 6))) (pv 7)) (@pe_fn _ _ _ _ _ _ _ _ _ _ _ F_lback hr (by decide) rfl (@pa_cons _ _ _ _ _ (pv 7) pa_nil (by rfl)) (by decide) (by rfl) (by rfl))) (@pe_slice _ _ _ _ _ _ _ _ _ _ sl_str (pv 4) (@po_some _ _ _ (pv 6)) po_none)) (by rfl) (by first | exact .inl rfl | exact .inr rfl | assumption)))))) (by intro _ ; rfl))) pss_nil) (@pss_cons _ _ _ _ _ (@ps_set _ _ (8) _ _ _ _ sc.nd rfl (Or.inl rfl) (@pe_fn _ _ _ _ _ _ _ _ _ _ _ F_some hr (by decide) rfl (@pa_cons _ _ _ _ _ (pv 0) (@pa_cons _ _ _ _ _ (pv 1) (@pa_cons _ _ _ _ _ (@pe_op _ _ _ _ _ _ _ _ op_fdiv (pv 2) pe_int) pa_nil (by rfl)) (by rfl)) (by rfl)) (by decide) (by rfl) (by rfl)) (by rfl) (by first | exact .inl rfl | exact .inr rfl | assumption)) (@pss_cons _ _ _ _ _ (@ps_if _ _ _ _ _ _ _ _ (@pt_cmpR _ _ _ _ _ _ _ _ op_eq (pv 3) pe_int (nomark _)) (@pss_one _ _ _ (@ps_ret _ _ _ _ (@pe_op _ _ _ _ _ _ _ _ op_add_str (@pe_op _ _ _ _ _ _ _ _ op_add_str (pv 8) (pv 4)) (@pe_fn _ _ _ _ _ _ _ _ _ _ _ F_lback hr (by decide) rfl (@pa_cons _ _ _ _ _ (pv 8) pa_nil (by rfl)) (by decide) (by rfl) (by rfl))))) pss_nil) (@pss_one _ _ _ (@ps_ret _ _ _ _ (@pe_ifExp _ _ _ _ _ _ _ _ (@pt_cmpR _ _ _ _ _ _ _ _ op_lt (pv 3) pe_int (nomark _)) (pv 4) (@pe_op _ _ _ _ _ _ _ _ op_add_str (@pe_op _ _ _ _ _ _ _ _ op_mul_str (pv 4) (@pe_op _ _ _ _ _ _ _ _ op_add pe_int (@pe_fn _ _ _ _ _ _ _ _ _ _ _ F_draw hr (by decide) rfl (@pa_cons _ _ _ _ _ (pv 0) (@pa_cons _ _ _ _ _ pe_int pa_nil (by rfl)) (by rfl)) (by decide) (by rfl) (by rfl)))) (pv 8)))))))))), ?_⟩
    have q4 : n / 4 ≤ 10 := by omega
    have q1 : 1 ≤ n / 4 := by omega
    -- the way
    refine ⟨_, rfl, d, _, rfl, F, by decide, by decide, fun way H1 w0 w1 F1 sb1 => ?_⟩
    have hw : way = 0 ∨ way = 1 ∨ way = 2 ∨ way = 3 := by omega
    rcases hw with rfl | rfl | rfl | rfl
    · refine ⟨_, rfl, _, rfl, _, rfl, rfl, _, rfl, iteC (by decide) ⟨_, rfl, d, m, n, rfl, F1, m1, m2, by omega, by omega, fun u H2 hu F2 sb2 => ?_⟩⟩
      refine ⟨_, rfl, rfl, _, rfl, iteD (by decide) ?_⟩
      refine ⟨_, rfl, _, rfl, _, rfl, _, _, rfl, rfl, ⟨by decide, by decide⟩, d, m, n / 4, rfl, F2, m1, m2, by omega, by omega, fun v H8 hv F8 sb8 => ?_⟩
      refine ⟨_, rfl, rfl, _, rfl, iteD (by decide) ?_⟩
      refine ⟨_, rfl, _, _, rfl, rfl, _, rfl, iteC (by decide) ⟨_, rfl, ?_⟩⟩
      exact k u _ (by omega) F8 ((sb1.trans sb2).trans sb8)
    · refine ⟨_, rfl, _, rfl, _, rfl, rfl, _, rfl, iteD (by decide) ⟨_, rfl, _, _, rfl, rfl, ⟨by decide, by decide⟩, d, m, n / 4, rfl, F1, m1, m2, by omega, by omega, fun u H2 hu F2 sb2 => ?_⟩⟩
      refine ⟨_, rfl, rfl, _, rfl, iteC (by decide) ?_⟩
      refine ⟨_, rfl, _, rfl, _, _, rfl, rfl, ⟨by decide, by decide⟩, d, _, rfl, F2, by omega, by omega, fun r H3 r0 r1 F3 sb3 => ⟨_, _, rfl, rfl, _, rfl, by omega, by omega, ?_⟩⟩
      refine for_range (lo := 0) (n := (1 + r).toNat) (fun i σ H' => ∃ (a b c : Option V) (u : List L), σ = [some (.ref d), some (.int m), some (.int n), some (.int 1), some (tx u), a, b, c, none] ∧ u.length ≤ (n / 4).toNat + 2 * i ∧ Fd H' d ∧ SameB d H H')
        ⟨none, none, none, u, rfl, by omega, F3, (sb1.trans sb2).trans sb3⟩ ?_ ?_
      · rintro i σ H4 hi ⟨a, b, c, u, rfl, hu, F4, sb4⟩
        refine ⟨_, rfl, _, rfl, _, rfl, (by rw [toS_length]; omega), _, _, rfl, rfl, d, _, rfl, F4, by omega, by rw [toS_length]; omega, fun at' H5 a0 a1 F5 sb5 => ?_⟩
        refine ⟨_, rfl, _, rfl, d, _, rfl, F5, by omega, by omega, fun q H6 q0 q1 F6 sb6 => ?_⟩
        obtain ⟨x, hx6, hx⟩ := small_at q0 (by omega)
        refine ⟨_, _, cp x, rfl, rfl, (by rw [len_sm]; omega), hx, ?_⟩
        refine ⟨_, rfl, _, rfl, rfl, _, rfl, rfl, (by show 1 ≤ 5592405; decide), (by show 2 ≤ sizeLine; decide), fun l hl => ?_⟩
        have el : V.str (Txt.upper ⟨#[cp x]⟩) = tx [inv x] := congrArg V.str (upper_one hx6)
        rw [el]
        refine ⟨_, rfl, d, _, rfl, F6.new hl, by decide, by decide, fun q2 H7 p0 p1 F7 sb7 => ?_⟩
        obtain ⟨y, hy⟩ := two_at x p0 p1
        have hl7 : H7 l = some (.lst [tx [x], tx [inv x]]) := sb7 _ _ (F6.ne hl) upd_same
        refine ⟨l, _, _, _, rfl, rfl, SqL.of hl7, hy, ?_⟩
        refine ⟨_, rfl, _, rfl, _, rfl, _, rfl, (by rw [toS_length]; omega), _, rfl, _, _, rfl, rfl, ?_, _, rfl, [y], rfl, (by show 1 ≤ 5000; decide), fun H8 s8 => ?_⟩
        · rw [slice_toS, toS_length, toS_length]
          have h1 := cut_length u none (some at')
          show _ + 1 ≤ _
          omega
        rw [slice_toS, cut_to u a0, tx_app]
        refine ⟨_, _, rfl, rfl, ?_, _, rfl, _, rfl, _, rfl, _, rfl, (by rw [toS_length]; omega), _, _, rfl, rfl, ?_, ?_⟩
        · rw [toS_length, toS_length, List.length_append, List.length_take, bk_length]
          simp only [List.length_singleton]
          omega
        · rw [slice_toS, toS_append, toS_length, toS_length, List.length_append, List.length_append, List.length_take, bk_length]
          have h1 := cut_length u (some at') none
          simp only [List.length_singleton]
          omega
        · rw [slice_toS, cut_from u a0, toS_append, tx_app]
          refine ⟨_, _, _, _, rfl, ?_, F7.same s8, ((((sb4.trans sb5).trans sb6).trans (Same.new hl).b).trans sb7).trans s8.b⟩
          rw [List.length_append, List.length_append, List.length_append, List.length_take, List.length_drop, bk_length]
          simp only [List.length_singleton]
          omega
      · rintro σ H2 ⟨a, b, c, u, rfl, hu, F2, sb2⟩
        refine ⟨_, rfl, _, rfl, _, rfl, _, _, rfl, rfl, ⟨by decide, by decide⟩, d, m, n / 4, rfl, F2, m1, m2, by omega, by omega, fun v H8 hv F8 sb8 => ?_⟩
        refine ⟨_, rfl, rfl, _, rfl, iteD (by decide) ?_⟩
        refine ⟨_, rfl, _, _, rfl, rfl, _, rfl, iteC (by decide) ⟨_, rfl, ?_⟩⟩
        exact k u _ (by omega) F8 (sb2.trans sb8)
    · refine ⟨_, rfl, _, rfl, _, rfl, rfl, _, rfl, iteD (by decide) ⟨_, rfl, _, _, rfl, rfl, ⟨by decide, by decide⟩, d, m, n / 4, rfl, F1, m1, m2, by omega, by omega, fun u H2 hu F2 sb2 => ?_⟩⟩
      refine ⟨_, rfl, rfl, _, rfl, iteD (by decide) ?_⟩
      refine ⟨_, rfl, _, rfl, _, rfl, _, _, rfl, rfl, ⟨by decide, by decide⟩, d, m, n / 4, rfl, F2, m1, m2, by omega, by omega, fun v H8 hv F8 sb8 => ?_⟩
      refine ⟨_, rfl, rfl, _, rfl, iteC (by decide) ?_⟩
      refine ⟨_, rfl, _, rfl, _, _, rfl, rfl, (by rw [toS_length, toS_length]; omega), ?_⟩
      rw [tx_app]
      refine ⟨_, rfl, v, rfl, by omega, fun H9 s9 => ⟨_, _, rfl, rfl, (by rw [toS_length, toS_length, List.length_append, bk_length]; omega), ?_⟩⟩
      rw [tx_app]
      exact k _ _ (by rw [List.length_append, List.length_append, bk_length]; omega) (F8.same s9) (((sb1.trans sb2).trans sb8).trans s9.b)
    · refine ⟨_, rfl, _, rfl, _, rfl, rfl, _, rfl, iteD (by decide) ⟨_, rfl, _, _, rfl, rfl, ⟨by decide, by decide⟩, d, m, n / 4, rfl, F1, m1, m2, by omega, by omega, fun u H2 hu F2 sb2 => ?_⟩⟩
      refine ⟨_, rfl, rfl, _, rfl, iteD (by decide) ?_⟩
      refine ⟨_, rfl, _, rfl, _, rfl, _, _, rfl, rfl, ⟨by decide, by decide⟩, d, m, n / 4, rfl, F2, m1, m2, by omega, by omega, fun v H8 hv F8 sb8 => ?_⟩
      refine ⟨_, rfl, rfl, _, rfl, iteD (by decide) ?_⟩
      refine ⟨_, rfl, _, _, rfl, rfl, _, rfl, iteD (by decide) ?_⟩
      refine ⟨_, rfl, _, rfl, d, _, rfl, F8, by decide, by decide, fun r H9 r0 r1 F9 sb9 => ?_⟩
      have er : (rep (1 + r).toNat u).length ≤ 3 * (n / 4).toNat := by
        rw [rep_length]
        exact Nat.mul_le_mul (by omega) (by omega)
      refine ⟨_, _, rfl, rfl, _, _, rfl, rfl, mulOk_toS u (by omega) (by omega) (by omega), _, rfl, _, _, rfl, rfl, ?_, ?_⟩
      · rw [rep_toS, toS_length, toS_length]; omega
      rw [rep_toS, tx_app]
      exact k _ _ (by rw [List.length_append]; omega) F9 (((sb1.trans sb2).trans sb8).trans sb9)
end
end Kx
set_option Elab.async false
set_option linter.all false
set_option maxRecDepth 100000
set_option maxHeartbeats 0
namespace Kx
open PySem PySem.Spec PyProof.Rows L2 Wd
section
variable {P : Program} {w : World} {K : PySem.W.Frag} {mg : Str → Option Value} {base : Heap} {aB : Addr}
noncomputable abbrev s_letter : Stmt := top 15
theorem sc_letter : FnScope ["thing"] ["thing"] (defScope s_letter) := ⟨rfl, rfl, rfl, by decide +kernel, rfl, by decide +kernel, by decide +kernel⟩
theorem c_letter (D : Df K mg "is_letter" s_letter) (T : Bt K w mg aB) (B : Bk K aB) : Fnc P w K mg base "is_letter" ["thing"] 1 (spLetter K) := by
  have sc := sc_letter
  refine D.ok sc (fun _ _ _ _ _ _ us hl => by obtain ⟨_, rfl⟩ := len1 hl; rfl) (fun vs H Q E h => ?_) (fun f cdv A outer s H vs Q E hr h => ?_)
  · obtain ⟨x, rfl, _⟩ := h
    rfl
  · obtain ⟨x, rfl, hx, k⟩ := h
    refine ⟨_, (@pss_one _ _ _ (@ps_ret _ _ _ _ (@pe_and _ _ _ _ _ _ _ (@pe_callB _ _ _ _ _ _ _ _ _ (@call_isK _ (K) rfl) (by rfl) T.isinstance b_isinstance (@pa_cons _ _ _ _ _ (pv 0) (@pa_cons _ _ _ _ _ (@pe_bltn _ _ (.ty "str") _ _ rfl T.str b_str rfl (by decide) (by decide)) pa_nil (by rfl)) (by rfl)) (by decide) (by decide) (by rfl) (by rfl)) (@pe_one _ _ _ _ _ (@pe_kin _ _ _ _ _ _ _ _ _ T.dB rfl rfl B.lo rfl T.mgB (pv 0) (by decide)))))), ?_⟩
    cases hx with
    | str z hz =>
      obtain ⟨r, hr1, hr2⟩ := B.all z
      refine ⟨_, rfl, _, _, _, _, rfl, .str z, kit_str, true, rfl, ?_⟩
      refine iteC rfl ⟨_, rfl, z, r, rfl, hr1, ?_⟩
      rw [hr2]
      exact k
    | oth ty e ns =>
      refine ⟨_, rfl, _, _, _, _, rfl, ty, e, false, rfl, ?_⟩
      rw [letV_oth ns] at k
      exact iteD rfl k
noncomputable abbrev s_num : Stmt := top 17
theorem sc_num : FnScope ["letter"] ["letter"] (defScope s_num) := ⟨rfl, rfl, rfl, by decide +kernel, rfl, by decide +kernel, by decide +kernel⟩
theorem c_num (D : Df K mg "number_of" s_num) (T : Bt K w mg aB) (S : ∃ t, mg "SMALL" = some (.str "abcdef" t)) : Fnc P w K mg base "number_of" ["letter"] 1 spNum := by
  have sc := sc_num
  refine D.ok sc (fun _ _ _ _ _ _ us hl => by obtain ⟨_, rfl⟩ := len1 hl; rfl) (fun vs H Q E h => ?_) (fun f cdv A outer s H vs Q E hr h => ?_)
  · obtain ⟨x, rfl, _⟩ := h
    rfl
  · obtain ⟨x, rfl, k⟩ := h
    obtain ⟨tS, mgS⟩ := S
    refine ⟨_, (@pss_one _ _ _ (@ps_ret _ _ _ _ (@pe_bm _ _ _ _ _ _ _ _ _ _ _ _ PySem.F.plainAttrs_str PySem.F.slot_str_index PySem.F.type_str_index mt_index (@pe_glob _ _ (.str "abcdef") _ _ rfl mgS ⟨_, rfl⟩ (by decide)) (@pa_cons _ _ _ _ _ (@pe_bm0 _ _ _ _ _ _ _ _ _ PySem.F.plainAttrs_str PySem.F.slot_str_lower PySem.F.type_str_lower mt_lower (pv 0) (by rfl) (by rfl)) pa_nil (by rfl)) (by rfl) (by rfl) (by rfl) (by rfl) (by rfl)))), ?_⟩
    exact ⟨rfl, _, rfl, rfl, _, rfl, rfl, (by rw [toS_length]; show 1 ≤ 5592405; decide), _, _, _, _, rfl, rfl, num_at x, k⟩
noncomputable abbrev s_word : Stmt := top 16
theorem sc_word : FnScope ["many", "thing"] ["many", "thing"] (defScope s_word) := ⟨rfl, rfl, rfl, by decide +kernel, rfl, by decide +kernel, by decide +kernel⟩
theorem c_word (D : Df K mg "is_word" s_word) (T : Bt K w mg aB) (F_letter : Fnc P w K mg base "is_letter" ["thing"] 1 (spLetter K)) (F_num : Fnc P w K mg base "number_of" ["letter"] 1 spNum) : Fnc P w K mg base "is_word" ["many", "thing"] 2 (spIsW K) := by
  have sc := sc_word
  refine D.ok sc (fun _ _ _ _ _ _ us hl => by obtain ⟨_, _, rfl⟩ := len2 hl; rfl) (fun vs H Q E h => ?_) (fun f cdv A outer s H vs Q E hr h => ?_)
  · obtain ⟨m, x, rfl, _⟩ := h
    rfl
  · obtain ⟨m, x, rfl, m1, m2, hx, k⟩ := h
    have l16 := line16
    refine ⟨_, (@pss_cons _ _ _ _ _ (@ps_if _ _ _ _ _ _ _ _ (@pt_not _ _ _ _ (@pt_truth _ _ _ (@pe_callB _ _ _ _ _ _ _ _ _ (@call_isK _ (K) rfl) (by rfl) T.isinstance b_isinstance (@pa_cons _ _ _ _ _ (pv 1) (@pa_cons _ _ _ _ _ (@pe_bltn _ _ (.ty "str") _ _ rfl T.str b_str rfl (by decide) (by decide)) pa_nil (by rfl)) (by rfl)) (by decide) (by decide) (by rfl) (by rfl)) (fun _ => rfl))) (@pss_one _ _ _ (@ps_ret _ _ _ _ pe_bl)) pss_nil) (@pss_one _ _ _ (@ps_ret _ _ _ _ (@pe_callB _ _ _ _ _ _ _ _ _ (@call_all_bools _ rfl) (by rfl) T.all b_all (@pa_cons _ _ _ _ _ (@pe_comp _ _ _ _ _ _ _ (["sign", "many"]) (["sign"]) ([0]) _ _ _ _ (@blk_of _ _ _ _ _ _ rfl (by kernel_rfl)) rfl (@pi_str _ _ _ _ (pv 1)) (fun _ _ _ _ => @pg_name _ _ (0) _ (show (["sign", "many"] : List Str).Nodup from by decide +kernel) rfl (Or.inl rfl) (by first | exact .inl rfl | exact .inr rfl | assumption)) (fun _ _ _ _ => pifs_nil) (fun _ _ _ _ => by (exact @pe_and _ _ _ _ _ _ _ (by (exact (@pe_fn _ _ _ _ _ _ _ _ _ _ _ F_letter hr (by decide) rfl (@pa_cons _ _ _ _ _ (pv 0) pa_nil (by rfl)) (by decide) (by rfl) (by rfl)))) (by (exact @pe_one _ _ _ _ _ (by (exact @pe_cmpR _ _ _ _ _ _ _ _ op_lt (by (exact (@pe_fn _ _ _ _ _ _ _ _ _ _ _ F_num hr (by decide) rfl (@pa_cons _ _ _ _ _ (pv 0) pa_nil (by rfl)) (by decide) (by rfl) (by rfl)))) (by (exact (pv 1))) (nomark _))))))) (by intro _ ; rfl)) pa_nil (by rfl)) (by decide) (by decide) (by rfl) (by rfl))))), ?_⟩
    cases hx with
    | oth ty e ns =>
      refine ⟨_, rfl, _, _, _, _, rfl, ty, e, _, rfl, ?_⟩
      rw [wdV_oth ns] at k
      exact k _ (Same.refl _)
    | str z hz =>
      refine ⟨_, rfl, _, _, _, _, rfl, .str z, kit_str, _, rfl, ?_⟩
      refine ⟨_, rfl, _, rfl, ?_⟩
      refine comp_by (own := ["sign"]) (cap := [0]) (J := Its z) z.cps.size (fun i ys σ H' => ∃ v : Option V, σ = [v, some (.int m)] ∧ ys = (((z.cps.toList).take i).map (okC m)).map V.bl ∧ H' = H) ⟨none, rfl, rfl, rfl⟩ (fun i ys σ H' hi ⟨v, _, e, _⟩ => ?_) (by have : z.cps.size ≤ 500 := hz; omega) (fun i ys σ H' hi _ => hi) (fun ys σ H' _ => rfl) ?_ ?_
      · rw [e, List.length_map, List.length_map, List.length_take]; omega
      · rintro i ys σ H1 y H2 N hi ⟨v, rfl, rfl, rfl⟩ ⟨rfl, c, hc, rfl⟩ hN
        have hc' : z.cps.toList[i]? = some c := by simpa using hc
        have fin : ∀ b, b = okC m c → N ((((z.cps.toList).take i).map (okC m)).map V.bl ++ [.bl b]) [some (.str ⟨#[c]⟩), some (.int m)] H2 := fun b eb => hN _ _ _ ⟨_, rfl, by rw [List.take_add_one, hc', List.map_append, List.map_append, eb]; rfl, rfl⟩
        refine ⟨_, rfl, _, rfl, .str _ (by show 1 ≤ 500; decide), _, rfl, ?_⟩
        cases hl : (ltr c).isSome with
        | false =>
          refine iteD hl (fin _ (not_ok hl).symm)
        | true =>
          obtain ⟨x, e1, e2⟩ := isLet_ltr hl
          refine iteC hl ⟨_, rfl, x, by rw [e1]; rfl, _, rfl, ?_⟩
          refine ⟨_, _, rfl, rfl, fin _ ?_⟩
          rw [e2, one_ok]
      · rintro ys σ H1 l ⟨v, rfl, rfl, rfl⟩ hl
        refine ⟨l, _, rfl, SqL.of upd_same, ?_⟩
        rw [List.take_of_length_le (by simp), List.all_map]
        exact k _ (Same.new hl)
end
end Kx
set_option Elab.async false
set_option linter.all false
set_option maxRecDepth 100000
set_option maxHeartbeats 0
namespace Kx
open PySem PySem.Spec PyProof.Rows L2 Wd
section
variable {P : Program} {w : World} {K : PySem.W.Frag} {mg : Str → Option Value} {base : Heap} {aB : Addr}
noncomputable abbrev s_core : Stmt := top 21
theorem sc_core : FnScope ["word", "whole", "size"] ["word"] (defScope s_core) := ⟨rfl, rfl, rfl, by decide +kernel, rfl, by decide +kernel, by decide +kernel⟩
theorem c_core (D : Df K mg "core" s_core) (T : Bt K w mg aB) (F_back : Fnc P w K mg base "back" ["word"] 1 spBk) (F_red : Fnc P w K mg base "reduced" ["word"] 1 spRed) : Fnc P w K mg base "core" ["word"] 2 spCore := by
  have sc := sc_core
  refine D.ok sc (fun _ _ _ _ _ _ us hl => by obtain ⟨_, rfl⟩ := len1 hl; rfl) (fun vs H Q E h => ?_) (fun f cdv A outer s H vs Q E hr h => ?_)
  · obtain ⟨u, rfl, _⟩ := h
    rfl
  · obtain ⟨u, rfl, hu, k⟩ := h
    have l16 := line16
    refine ⟨_, (@pss_cons _ _ _ _ _ (@ps_set _ _ (1) _ _ _ _ sc.nd rfl (Or.inl rfl) (@pe_fn _ _ _ _ _ _ _ _ _ _ _ F_red hr (by decide) rfl (@pa_cons _ _ _ _ _ (pv 0) pa_nil (by rfl)) (by decide) (by rfl) (by rfl)) (by rfl) (by first | exact .inl rfl | exact .inr rfl | assumption)) (@pss_cons _ _ _ _ _ (@ps_set _ _ (2) _ _ _ _ sc.nd rfl (Or.inl rfl) pe_int (by rfl) (by first | exact .inl rfl | exact .inr rfl | assumption)) (@pss_cons _ _ _ _ _ (@ps_while _ _ _ _ _ _ PassesOwn.never (@PW.pt _ _ _ (@pw_and _ _ _ _ _ _ _ (@pt_cmpR _ _ _ _ _ _ _ _ op_lt (@pe_op _ _ _ _ _ _ _ _ op_mul pe_int (pv 2)) (@pe_callB _ _ _ _ _ _ _ _ _ call_len_str (by rfl) T.len PySem.boot_len (@pa_cons _ _ _ _ _ (pv 1) pa_nil (by rfl)) (by decide) (by decide) (by rfl) (by rfl)) (nomark _)) (@pw_and1 _ _ _ _ (@pt_cmpR _ _ _ _ _ _ _ _ op_eq (@pe_ix _ _ _ _ _ _ _ ix_str (pv 1) (pv 2) (fun _ _ => rfl)) (@pe_fn _ _ _ _ _ _ _ _ _ _ _ F_back hr (by decide) rfl (@pa_cons _ _ _ _ _ (@pe_ix _ _ _ _ _ _ _ ix_str (pv 1) (@pe_op _ _ _ _ _ _ _ _ op_sub (@pe_un _ _ _ _ _ _ un_neg pe_int) (pv 2)) (fun _ _ => rfl)) pa_nil (by rfl)) (by decide) (by rfl) (by rfl)) (nomark _))))) (@pss_one _ _ _ (@ps_aug _ _ (2) _ _ _ _ _ _ sc.nd rfl (Or.inl rfl) pe_int ip_add (by first | exact .inl rfl | exact .inr rfl | assumption)))) (@pss_one _ _ _ (@ps_ret _ _ _ _ (@pe_tup _ _ _ _ _ (@pa_cons _ _ _ _ _ (@pe_slice _ _ _ _ _ _ _ _ _ _ sl_str (pv 1) po_none (@po_some _ _ _ (pv 2))) (@pa_cons _ _ _ _ _ (@pe_slice _ _ _ _ _ _ _ _ _ _ sl_str (pv 1) (@po_some _ _ _ (pv 2)) (@po_some _ _ _ (@pe_op _ _ _ _ _ _ _ _ op_sub (@pe_callB _ _ _ _ _ _ _ _ _ call_len_str (by rfl) T.len PySem.boot_len (@pa_cons _ _ _ _ _ (pv 1) pa_nil (by rfl)) (by decide) (by decide) (by rfl) (by rfl)) (pv 2)))) pa_nil (by rfl)) (by rfl)))))))), ?_⟩
    refine ⟨_, rfl, u, rfl, by omega, fun H1 s1 => ?_⟩
    have hru := red_length u
    have hw : (toS (red u)).length ≤ sizeLine := by rw [toS_length]; omega
    refine ⟨fun n σ H' => ∃ (fr md : List L), σ = [some (tx u), some (tx (red u)), some (.int (fr.length : Int))] ∧ Same H H' ∧ red u = fr ++ (md ++ bk fr) ∧ (∀ r, Core fr md r → Core [] (red u) r) ∧ n = md.length, ⟨_, [], red u, rfl, s1, (by rw [bk_nil, List.append_nil]; rfl), fun _ q => q, rfl⟩, ?_⟩
    rintro n σ H2 ⟨fr, md, rfl, s2, eR, hC, rfl⟩
    have hlen : (red u).length = 2 * fr.length + md.length := by
      rw [eR, List.length_append, List.length_append, bk_length]
      omega
    have fin : (∀ x mid, md ≠ x :: (mid ++ [inv x])) → ∀ H3, Same H H3 → ∀ p, H3 p = none → Q (.ref p) (upd H3 p (.tup [tx fr, tx md])) := fun hn H3 s3 p hp =>
      k fr md p _ (hC _ (.stop fr md hn)) (by omega) upd_same (s3.then hp)
    have c1 : cutL (red u) none (some (fr.length : Int)) = fr := by
      rw [cut_to _ (by omega), Int.toNat_natCast, eR, List.take_left']
      rfl
    have c2 : cutL (red u) (some (fr.length : Int)) (some (((red u).length : Int) - (fr.length : Int))) = md := by
      have e : ((red u).length : Int) - (fr.length : Int) = ((fr.length + md.length : Nat) : Int) := by omega
      unfold cutL
      rw [e, HT.sIx_nat, HT.sIx_nat, Nat.min_eq_left (by omega), Nat.min_eq_left (by omega), eR, List.drop_left' rfl, Nat.add_sub_cancel_left, List.take_left' rfl]
    by_cases h0 : md = []
    · have e1 : decide ((2 : Int) * (fr.length : Int) < ((toS (red u)).length : Int)) = false := by
        rw [toS_length]
        refine decide_eq_false ?_
        rw [h0, List.length_nil] at hlen
        omega
      refine ⟨_, rfl, _, _, rfl, rfl, (Or.inl ⟨by decide, by decide⟩), _, rfl, _, rfl, hw, _, _, rfl, rfl, _, rfl, iteD e1 (iteF ?_)⟩
      have hn : ∀ x mid, md ≠ x :: (mid ++ [inv x]) := fun x mid e => by rw [h0] at e; cases e
      refine ⟨_, rfl, _, rfl, _, rfl, _, rfl, hw, _, rfl, _, rfl, _, rfl, _, rfl, _, rfl, hw, _, rfl, _, _, rfl, rfl, _, rfl, _, rfl, hw, ?_⟩
      rw [slice_toS, slice_toS, toS_length, c1, c2]
      exact ⟨(by show 2 ≤ sizeLine; decide), fun p hp => fin hn _ (s2) p hp⟩
    · have e1 : decide ((2 : Int) * (fr.length : Int) < ((toS (red u)).length : Int)) = true := by
        rw [toS_length]
        refine decide_eq_true ?_
        have := List.length_pos_iff.mpr h0
        omega
      refine ⟨_, rfl, _, _, rfl, rfl, (Or.inl ⟨by decide, by decide⟩), _, rfl, _, rfl, hw, _, _, rfl, rfl, _, rfl, iteC e1 ?_⟩
      obtain ⟨x, r, ex⟩ : ∃ x r, md = x :: r := by
        cases md with
        | nil => exact absurd rfl h0
        | cons x r => exact ⟨x, r, rfl⟩
      obtain ⟨mid, z, ez⟩ : ∃ mid z, md = mid ++ [z] := ⟨md.dropLast, md.getLast h0, (List.dropLast_concat_getLast h0).symm⟩
      have ax : atI (toS (red u)).cps.toList (fr.length : Int) = some (cp x) := atI_toS rfl (by rw [eR, ex, List.getElem?_append_right (Nat.le_refl _), Nat.sub_self]; rfl)
      have az : atI (toS (red u)).cps.toList (-1 - (fr.length : Int)) = some (cp z) := by
        have := at_neg (fr ++ mid) (bk fr) z
        rw [bk_length] at this
        rw [eR, ez, List.append_assoc, ← List.append_assoc]
        exact this
      refine ⟨_, rfl, _, rfl, _, _, cp x, rfl, rfl, hw, ax, _, rfl, _, rfl, _, rfl, _, _, rfl, rfl, _, _, cp z, rfl, rfl, hw, az, [z], rfl, (by show 1 ≤ 5000; decide), fun H3 s3 => ⟨rfl, _, rfl, ?_⟩⟩
      show if decide (tx [x] = tx (bk [z])) = true then _ else _
      rw [dec_tx, bk_one]
      refine ite2 (fun h => ?_) (fun h => ?_)
      · have h : x = inv z := by simpa using h
        have hz : z = inv x := by rw [h, inv_inv]
        obtain ⟨m2, em⟩ : ∃ m2, md = x :: (m2 ++ [inv x]) := by
          cases mid with
          | nil =>
            rw [ez] at ex
            have := (List.cons.inj ex).1
            rw [this] at hz
            exact absurd hz.symm (inv_ne x)
          | cons y m2 =>
            rw [ez] at ex
            have := (List.cons.inj ex).1
            subst this
            exact ⟨m2, by rw [ez, hz]; rfl⟩
        have hl2 : md.length = m2.length + 2 := by rw [em]; exact core_front
        refine ⟨_, fun σ' H' q => q, ?_⟩
        refine ⟨_, rfl, _, _, rfl, rfl, m2.length, by omega, fr ++ [x], m2, ?_, s2.trans s3, ?_, fun q hq => hC q (by rw [em]; exact .step fr x m2 q hq), rfl⟩
        · rw [List.length_append, List.length_singleton]
          rfl
        · rw [eR, em, bk_append, bk_one]
          simp
      · have h : ¬ x = inv z := by simpa using h
        have hn : ∀ y m2, md ≠ y :: (m2 ++ [inv y]) := by
          intro y m2 e
          rw [ex] at e
          obtain ⟨e1, e2⟩ := List.cons.inj e
          subst e1
          have e3 : x :: (m2 ++ [inv x]) = mid ++ [z] := by rw [← e2, ← ex, ez]
          have e4 := List.append_inj_right' (s₁ := x :: m2) (s₂ := mid) e3 rfl
          exact h (by rw [← (List.cons.inj e4).1, inv_inv])
        refine ⟨_, rfl, _, rfl, _, rfl, _, rfl, hw, _, rfl, _, rfl, _, rfl, _, rfl, _, rfl, hw, _, rfl, _, _, rfl, rfl, _, rfl, _, rfl, hw, ?_⟩
        rw [slice_toS, slice_toS, toS_length, c1, c2]
        exact ⟨(by show 2 ≤ sizeLine; decide), fun p hp => fin hn _ (s2.trans s3) p hp⟩
end
section
variable {P : Program} {w : World} {K : PySem.W.Frag} {mg : Str → Option Value} {base : Heap} {aB : Addr}
noncomputable abbrev s_leastp : Stmt := top 23
theorem sc_leastp : FnScope ["word", "twice", "one", "other", "size"] ["word"] (defScope s_leastp) := ⟨rfl, rfl, rfl, by decide +kernel, rfl, by decide +kernel, by decide +kernel⟩
theorem c_leastp (D : Df K mg "least_place" s_leastp) (T : Bt K w mg aB) : Fnc P w K mg base "least_place" ["word"] 1 spLeastP := by
  have sc := sc_leastp
  refine D.ok sc (fun _ _ _ _ _ _ us hl => by obtain ⟨_, rfl⟩ := len1 hl; rfl) (fun vs H Q E h => ?_) (fun f cdv A outer s H vs Q E hr h => ?_)
  · obtain ⟨u, rfl, _⟩ := h
    rfl
  · obtain ⟨u, rfl, hu, k⟩ := h
    have l16 := line16
    refine ⟨_, (@pss_cons _ _ _ _ _ (@ps_set _ _ (1) _ _ _ _ sc.nd rfl (Or.inl rfl) (@pe_op _ _ _ _ _ _ _ _ op_add_str (pv 0) (pv 0)) (by rfl) (by first | exact .inl rfl | exact .inr rfl | assumption)) (@pss_cons _ _ _ _ _ (@ps_set _ _ (2) _ _ _ _ sc.nd rfl (Or.inl rfl) pe_int (by rfl) (by first | exact .inl rfl | exact .inr rfl | assumption)) (@pss_cons _ _ _ _ _ (@ps_set _ _ (3) _ _ _ _ sc.nd rfl (Or.inl rfl) pe_int (by rfl) (by first | exact .inl rfl | exact .inr rfl | assumption)) (@pss_cons _ _ _ _ _ (@ps_set _ _ (4) _ _ _ _ sc.nd rfl (Or.inl rfl) pe_int (by rfl) (by first | exact .inl rfl | exact .inr rfl | assumption)) (@pss_cons _ _ _ _ _ (@ps_while _ _ _ _ _ _ PassesOwn.never (@PW.pt _ _ _ (@pw_and _ _ _ _ _ _ _ (@pt_cmpR _ _ _ _ _ _ _ _ op_lt (@pe_callB _ _ _ _ _ _ _ _ _ (@call_max2 _ rfl) (by rfl) T.max b_max (@pa_cons _ _ _ _ _ (pv 2) (@pa_cons _ _ _ _ _ (pv 3) pa_nil (by rfl)) (by rfl)) (by decide) (by decide) (by rfl) (by rfl)) (@pe_callB _ _ _ _ _ _ _ _ _ call_len_str (by rfl) T.len PySem.boot_len (@pa_cons _ _ _ _ _ (pv 0) pa_nil (by rfl)) (by decide) (by decide) (by rfl) (by rfl)) (nomark _)) (@pw_and1 _ _ _ _ (@pt_cmpR _ _ _ _ _ _ _ _ op_lt (pv 4) (@pe_callB _ _ _ _ _ _ _ _ _ call_len_str (by rfl) T.len PySem.boot_len (@pa_cons _ _ _ _ _ (pv 0) pa_nil (by rfl)) (by decide) (by decide) (by rfl) (by rfl)) (nomark _))))) (@pss_one _ _ _ (@ps_if _ _ _ _ _ _ _ _ (@pt_cmpR _ _ _ _ _ _ _ _ op_eq (@pe_ix _ _ _ _ _ _ _ ix_str (pv 1) (@pe_op _ _ _ _ _ _ _ _ op_add (pv 2) (pv 4)) (fun _ _ => rfl)) (@pe_ix _ _ _ _ _ _ _ ix_str (pv 1) (@pe_op _ _ _ _ _ _ _ _ op_add (pv 3) (pv 4)) (fun _ _ => rfl)) (nomark _)) (@pss_one _ _ _ (@ps_aug _ _ (4) _ _ _ _ _ _ sc.nd rfl (Or.inl rfl) pe_int ip_add (by first | exact .inl rfl | exact .inr rfl | assumption))) (@pss_cons _ _ _ _ _ (@ps_if _ _ _ _ _ _ _ _ (@pt_cmpR _ _ _ _ _ _ _ _ op_gt_str (@pe_ix _ _ _ _ _ _ _ ix_str (pv 1) (@pe_op _ _ _ _ _ _ _ _ op_add (pv 2) (pv 4)) (fun _ _ => rfl)) (@pe_ix _ _ _ _ _ _ _ ix_str (pv 1) (@pe_op _ _ _ _ _ _ _ _ op_add (pv 3) (pv 4)) (fun _ _ => rfl)) (nomark _)) (@pss_one _ _ _ (@ps_aug _ _ (2) _ _ _ _ _ _ sc.nd rfl (Or.inl rfl) (@pe_op _ _ _ _ _ _ _ _ op_add (pv 4) pe_int) ip_add (by first | exact .inl rfl | exact .inr rfl | assumption))) (@pss_one _ _ _ (@ps_aug _ _ (3) _ _ _ _ _ _ sc.nd rfl (Or.inl rfl) (@pe_op _ _ _ _ _ _ _ _ op_add (pv 4) pe_int) ip_add (by first | exact .inl rfl | exact .inr rfl | assumption)))) (@pss_cons _ _ _ _ _ (@ps_if _ _ _ _ _ _ _ _ (@pt_cmpR _ _ _ _ _ _ _ _ op_eq (pv 2) (pv 3) (nomark _)) (@pss_one _ _ _ (@ps_aug _ _ (3) _ _ _ _ _ _ sc.nd rfl (Or.inl rfl) pe_int ip_add (by first | exact .inl rfl | exact .inr rfl | assumption))) pss_nil) (@pss_one _ _ _ (@ps_set _ _ (4) _ _ _ _ sc.nd rfl (Or.inl rfl) pe_int (by rfl) (by first | exact .inl rfl | exact .inr rfl | assumption)))))))) (@pss_one _ _ _ (@ps_ret _ _ _ _ (@pe_callB _ _ _ _ _ _ _ _ _ (@call_min2 _ rfl) (by rfl) T.min b_min (@pa_cons _ _ _ _ _ (pv 2) (@pa_cons _ _ _ _ _ (pv 3) pa_nil (by rfl)) (by rfl)) (by decide) (by decide) (by rfl) (by rfl))))))))), ?_⟩
    have hw : (toS u).length ≤ sizeLine := by rw [toS_length]; omega
    refine ⟨_, rfl, _, rfl, _, _, rfl, rfl, (by rw [toS_length]; omega), ?_⟩
    rw [toS_append]
    refine ⟨fun n σ H' => ∃ (i j q : Nat), σ = [some (tx u), some (tx (u ++ u)), some (.int (i : Int)), some (.int (j : Int)), some (.int (q : Int))] ∧ H' = H ∧ LP (rnd u) u.length i j q ∧ i ≤ 2 * u.length + 1 ∧ j ≤ 2 * u.length + 1 ∧ q ≤ u.length ∧ n + i + j + q = 10 * u.length + 10 ∧ (u = [] → i = 0), ⟨10 * u.length + 9, 0, 1, 0, rfl, rfl, LP.start _ _, by omega, by omega, by omega, by omega, fun _ => rfl⟩, ?_⟩
    rintro n σ H2 ⟨i, j, q, rfl, rfl, hL, hi, hj, hq, hm, hz⟩
    have hmax : (if (j : Int) > (i : Int) then (j : Int) else (i : Int)) = ((max i j : Nat) : Int) := by split <;> omega
    have hmin : (if (j : Int) < (i : Int) then (j : Int) else (i : Int)) = ((min i j : Nat) : Int) := by split <;> omega
    have fin : (u.length ≤ max i j ∨ u.length ≤ q) → Q (.int (if (j : Int) < (i : Int) then (j : Int) else (i : Int))) H2 := fun e => by
      rw [hmin]
      by_cases h0 : u = []
      · have : min i j = 0 := by rw [hz h0]; omega
        rw [this]
        refine k 0 (by omega) ?_
        rw [h0]
        exact ⟨List.mem_singleton.mpr rfl, fun y hy => by rw [List.mem_singleton.mp hy]; exact List.le_refl _⟩
      · obtain ⟨a, b⟩ := hL.least e h0
        exact k _ (by omega) a
    by_cases h1 : max i j < u.length
    · refine ⟨_, rfl, _, rfl, _, _, rfl, _, rfl, _, rfl, hw, _, _, rfl, rfl, _, rfl, iteC (by rw [hmax, toS_length]; exact decide_eq_true (by omega)) ?_⟩
      by_cases h2 : q < u.length
      · refine ⟨_, rfl, _, rfl, _, rfl, hw, _, _, rfl, rfl, _, rfl, iteC (by rw [toS_length]; exact decide_eq_true (by omega)) ?_⟩
        have hw2 : (toS (u ++ u)).length ≤ sizeLine := by rw [toS_length, List.length_append]; omega
        obtain ⟨x, hx⟩ : ∃ x, (u ++ u)[i + q]? = some x := ⟨_, List.getElem?_eq_getElem (by rw [List.length_append]; omega)⟩
        obtain ⟨y, hy⟩ : ∃ y, (u ++ u)[j + q]? = some y := ⟨_, List.getElem?_eq_getElem (by rw [List.length_append]; omega)⟩
        have rx := rnd_at hx
        have ry := rnd_at hy
        have ax : atI (toS (u ++ u)).cps.toList ((i : Int) + (q : Int)) = some (cp x) := atI_toS (by omega) hx
        have ay : atI (toS (u ++ u)).cps.toList ((j : Int) + (q : Int)) = some (cp y) := atI_toS (by omega) hy
        have hne : u ≠ [] := fun e => by rw [e] at h1; simp at h1
        refine ⟨_, fun σ' H' q => q, ?_⟩
        refine ⟨_, rfl, _, rfl, _, rfl, _, _, rfl, rfl, _, _, cp x, rfl, rfl, hw2, ax, _, rfl, _, rfl, _, rfl, _, _, rfl, rfl, _, _, cp y, rfl, rfl, hw2, ay, rfl, _, rfl, ?_⟩
        show if decide (tx [x] = tx [y]) = true then _ else _
        rw [dec_tx]
        refine ite2 (fun h => ?_) (fun h => ?_)
        · have h : x = y := by simpa using h
          refine ⟨_, rfl, _, _, rfl, rfl, n - 1, by omega, i, j, q + 1, rfl, rfl, hL.on (by rw [rx, ry, h]), hi, hj, by omega, by omega, hz⟩
        · have h : x ≠ y := by simpa using h
          have hc : cp x ≠ cp y := fun e => h (cp_inj x y e)
          refine ⟨_, rfl, _, rfl, _, rfl, _, _, rfl, rfl, _, _, cp x, rfl, rfl, hw2, ax, _, rfl, _, rfl, _, rfl, _, _, rfl, rfl, _, _, cp y, rfl, rfl, hw2, ay, _, _, rfl, rfl, _, rfl, ?_⟩
          have hd : decide ((⟨#[cp y]⟩ : Str).cps.toList < (⟨#[cp x]⟩ : Str).cps.toList) = decide (cp y < cp x) := by
            show decide ([cp y] < [cp x]) = _
            congr 1
            rw [List.cons_lt_cons_iff]
            simp
          rw [hd]
          refine ite2 (fun h => ?_) (fun h => ?_)
          · have h : cp y < cp x := by simpa using h
            refine ⟨_, rfl, _, rfl, _, _, rfl, rfl, _, _, rfl, rfl, _, rfl, _, rfl, rfl, _, rfl, ?_⟩
            have ei : (i : Int) + ((q : Int) + 1) = ((i + (q + 1) : Nat) : Int) := by omega
            by_cases he : i + (q + 1) = j
            · refine iteC (decide_eq_true (congrArg V.int (by show (i : Int) + ((q : Int) + 1) = (j : Int); omega))) ?_
              refine ⟨_, rfl, _, _, rfl, rfl, n - 2, by omega, i + (q + 1), j + 1, 0, ?_, rfl, hL.firstE h2 (by rw [rx, ry]; exact h) he, by omega, by omega, by omega, by omega, fun e => absurd e hne⟩
              show [_, _, some (V.int ((i : Int) + ((q : Int) + 1))), _, _] = _
              rw [ei]
              rfl
            · refine iteD (decide_eq_false fun e => he (by have e2 : (i : Int) + ((q : Int) + 1) = (j : Int) := V.int.inj e; omega)) ?_
              refine ⟨n - 1, by omega, i + (q + 1), j, 0, ?_, rfl, hL.first h2 (by rw [rx, ry]; exact h) he, by omega, by omega, by omega, by omega, fun e => absurd e hne⟩
              show [_, _, some (V.int ((i : Int) + ((q : Int) + 1))), _, _] = _
              rw [ei]
              rfl
          · have h : ¬ cp y < cp x := by simpa using h
            have h : cp x < cp y := by omega
            refine ⟨_, rfl, _, rfl, _, _, rfl, rfl, _, _, rfl, rfl, _, rfl, _, rfl, rfl, _, rfl, ?_⟩
            have ej : (j : Int) + ((q : Int) + 1) = ((j + (q + 1) : Nat) : Int) := by omega
            by_cases he : i = j + (q + 1)
            · refine iteC (decide_eq_true (congrArg V.int (by show (i : Int) = (j : Int) + ((q : Int) + 1); omega))) ?_
              refine ⟨_, rfl, _, _, rfl, rfl, n - 2, by omega, i, j + (q + 1) + 1, 0, ?_, rfl, hL.secondE h2 (by rw [rx, ry]; exact h) he, by omega, by omega, by omega, by omega, fun e => absurd e hne⟩
              show [_, _, _, some (V.int ((j : Int) + ((q : Int) + 1) + 1)), _] = _
              rw [ej]
              rfl
            · refine iteD (decide_eq_false fun e => he (by have e2 : (i : Int) = (j : Int) + ((q : Int) + 1) := V.int.inj e; omega)) ?_
              refine ⟨n - 1, by omega, i, j + (q + 1), 0, ?_, rfl, hL.second h2 (by rw [rx, ry]; exact h) he, by omega, by omega, by omega, by omega, fun e => absurd e hne⟩
              show [_, _, _, some (V.int ((j : Int) + ((q : Int) + 1))), _] = _
              rw [ej]
              rfl
      · refine ⟨_, rfl, _, rfl, _, rfl, hw, _, _, rfl, rfl, _, rfl, iteD (by rw [toS_length]; exact decide_eq_false (by omega)) ?_⟩
        exact ⟨_, rfl, _, rfl, _, _, rfl, fin (.inr (by omega))⟩
    · refine ⟨_, rfl, _, rfl, _, _, rfl, _, rfl, _, rfl, hw, _, _, rfl, rfl, _, rfl, iteD (by rw [hmax, toS_length]; exact decide_eq_false (by omega)) (iteF ?_)⟩
      exact ⟨_, rfl, _, rfl, _, _, rfl, fin (.inl (by omega))⟩
noncomputable abbrev s_least : Stmt := top 22
theorem sc_least : FnScope ["word", "place"] ["word"] (defScope s_least) := ⟨rfl, rfl, rfl, by decide +kernel, rfl, by decide +kernel, by decide +kernel⟩
theorem c_least (D : Df K mg "least_turn" s_least) (T : Bt K w mg aB) (F_leastp : Fnc P w K mg base "least_place" ["word"] 1 spLeastP) : Fnc P w K mg base "least_turn" ["word"] 2 spLeast := by
  have sc := sc_least
  refine D.ok sc (fun _ _ _ _ _ _ us hl => by obtain ⟨_, rfl⟩ := len1 hl; rfl) (fun vs H Q E h => ?_) (fun f cdv A outer s H vs Q E hr h => ?_)
  · obtain ⟨u, rfl, _⟩ := h
    rfl
  · obtain ⟨u, rfl, hu, k⟩ := h
    have l16 := line16
    have hw : (toS u).length ≤ sizeLine := by rw [toS_length]; omega
    refine ⟨_, (@pss_cons _ _ _ _ _ (@ps_set _ _ (1) _ _ _ _ sc.nd rfl (Or.inl rfl) (@pe_fn _ _ _ _ _ _ _ _ _ _ _ F_leastp hr (by decide) rfl (@pa_cons _ _ _ _ _ (pv 0) pa_nil (by rfl)) (by decide) (by rfl) (by rfl)) (by rfl) (by first | exact .inl rfl | exact .inr rfl | assumption)) (@pss_one _ _ _ (@ps_ret _ _ _ _ (@pe_op _ _ _ _ _ _ _ _ op_add_str (@pe_slice _ _ _ _ _ _ _ _ _ _ sl_str (pv 0) (@po_some _ _ _ (pv 1)) po_none) (@pe_slice _ _ _ _ _ _ _ _ _ _ sl_str (pv 0) po_none (@po_some _ _ _ (pv 1))))))), ?_⟩
    refine ⟨_, rfl, u, rfl, hu, fun p hp hl => ?_⟩
    refine ⟨_, rfl, _, rfl, _, rfl, _, rfl, hw, _, rfl, _, rfl, _, rfl, _, rfl, hw, _, _, rfl, rfl, ?_, ?_⟩
    · rw [slice_toS, slice_toS, toS_length, toS_length]
      have h1 := cut_length u (some (p : Int)) none
      have h2 := cut_length u none (some (p : Int))
      omega
    · rw [slice_toS, slice_toS, cut_from _ (by omega), cut_to _ (by omega), Int.toNat_natCast, toS_append]
      exact k _ _ hl (Same.refl _)
end
section
variable {P : Program} {w : World} {K : PySem.W.Frag} {mg : Str → Option Value} {base : Heap} {aB : Addr}
noncomputable abbrev s_lm : Stmt := top 30
theorem sc_lm : FnScope ["word"] ["word"] (defScope s_lm) := ⟨rfl, rfl, rfl, by decide +kernel, rfl, by decide +kernel, by decide +kernel⟩
theorem c_lm (D : Df K mg "least_middle" s_lm) (T : Bt K w mg aB) (F_core : Fnc P w K mg base "core" ["word"] 2 spCore) (F_least : Fnc P w K mg base "least_turn" ["word"] 2 spLeast) : Fnc P w K mg base "least_middle" ["word"] 3 spLM := by
  have sc := sc_lm
  refine D.ok sc (fun _ _ _ _ _ _ us hl => by obtain ⟨_, rfl⟩ := len1 hl; rfl) (fun vs H Q E h => ?_) (fun f cdv A outer s H vs Q E hr h => ?_)
  · obtain ⟨u, rfl, _⟩ := h
    rfl
  · obtain ⟨u, rfl, hu, k⟩ := h
    refine ⟨_, (@pss_one _ _ _ (@ps_ret _ _ _ _ (@pe_fn _ _ _ _ _ _ _ _ _ _ _ F_least hr (by decide) rfl (@pa_cons _ _ _ _ _ (@pe_ix _ _ _ _ _ _ _ ix_tup (@pe_fn _ _ _ _ _ _ _ _ _ _ _ F_core hr (by decide) rfl (@pa_cons _ _ _ _ _ (pv 0) pa_nil (by rfl)) (by decide) (by rfl) (by rfl)) pe_int (fun _ _ => rfl)) pa_nil (by rfl)) (by decide) (by rfl) (by rfl)))), ?_⟩
    refine ⟨_, rfl, u, rfl, hu, fun fr m p H1 hC hl hp s1 => ?_⟩
    have hm := (core_sub hC).2.2
    have hru := red_length u
    have hm : m.length ≤ (red u).length := hm
    refine ⟨p, _, _, _, rfl, rfl, SqT.of hp, rfl, m, rfl, by omega, fun t H2 hL s2 => k t fr m H2 hC hL (s1.trans s2)⟩
end
end Kx
set_option Elab.async false
set_option linter.all false
set_option maxRecDepth 100000
set_option maxHeartbeats 0
namespace Kx
open PySem PySem.Spec PyProof.Rows L2 Wd
section
variable {P : Program} {w : World} {K : PySem.W.Frag} {mg : Str → Option Value} {base : Heap} {aB : Addr}
noncomputable def cmem (st : Stmt) (j : Nat) : Stmt := match st with | .ClassDef (body := b) .. => b.getD j (.Pass ⟨0, 0, 0, 0⟩) | _ => .Pass ⟨0, 0, 0, 0⟩
noncomputable abbrev i_paper : Stmt := cmem (top 4) 0
theorem sc_ipaper : FnScope ["self", "word", "at"] ["self", "word", "at"] (defScope i_paper) := ⟨rfl, rfl, rfl, by decide +kernel, rfl, by decide +kernel, by decide +kernel⟩
theorem c_ipaper {R C f : Addr} {fd : FuncData} (D : Fun K "__init__" "NoPaper.__init__" i_paper f fd) (B : XBase K R) (hR : mg "RingError" = some (.ref R)) (x : XAt K C) (n0 : PySem.W.findIn K (.ref C) "word" = some none) (n1 : PySem.W.findIn K (.ref C) "at" = some none) :
    Binds K fd ["self", "word", "at"] [] ∧ FnOk P w K mg base CX0 1 f fd ["self", "word", "at"] (spInit ["word", "at"] C) := by
  have sc := sc_ipaper
  refine ⟨D.binds fun _ _ _ _ _ _ us hl => match us, hl with | [_, _, _], _ => rfl, D.ok sc (fun vs H Q E h => ?_) (fun cdv A outer s H vs Q E hr h => ?_)⟩
  · obtain ⟨a, ys, b, rfl, hl, _⟩ := h
    rw [List.length_cons, hl]; rfl
  · obtain ⟨a, ys, b, rfl, hl, ea, k⟩ := h
    match ys, hl with
    | [y, z], _ =>
    refine ⟨_, (@pss_cons _ _ _ _ _ (@ps_expr _ _ _ _ (@pe_initX _ _ _ _ _ _ _ _ _ _ B rfl hR (@pa_cons _ _ _ _ _ (pv 0) (@pa_cons _ _ _ _ _ pe_str pa_nil (by rfl)) (by rfl)) (by decide) (by rfl) (by rfl) (by rfl)) (by rfl))
      (@pss_cons _ _ _ _ _ (@ps_fx0 _ _ _ _ _ _ _ _ (pv 0) (pv 1) (by rfl)) (@pss_one _ _ _ (@ps_fx1 _ _ _ _ _ _ _ _ (pv 0) (pv 2) (by rfl))))), ?_⟩
    refine ⟨_, rfl, a, C, none, b, [_], rfl, by simp, ea, x, ?_⟩
    refine ⟨_, rfl, _, rfl, a, C, b, rfl, ea, x, n0, fun dx hdx ne => ?_⟩
    refine ⟨_, rfl, _, rfl, a, C, b, dx, _, rfl, ?_, upd_same .., (by show (1 : Nat) ≤ 900; decide), x, n1, ne, ?_⟩
    · rw [upd_ne (Ne.symm ne), upd_same]
    · have q := k dx hdx ne
      rw [show ∀ o o', upd (upd (upd H a (Exo a C (some dx) b)) dx o) dx o' = upd (upd H a (Exo a C (some dx) b)) dx o' from fun _ _ => upd_upd]
      exact q
end
end Kx
set_option Elab.async false
set_option linter.all false
set_option maxRecDepth 100000
set_option maxHeartbeats 0
namespace Kx
open PySem PySem.Spec PyProof.Rows L2 Wd
section
variable {P : Program} {w : World} {K : PySem.W.Frag} {mg : Str → Option Value} {base : Heap} {aB : Addr}
theorem lay_alike : (PyData.str "alike").canLay0 = true := by decide +kernel
theorem lay_unlike : (PyData.str "unlike").canLay0 = true := by decide +kernel
noncomputable abbrev s_ap : Stmt := top 26
theorem sc_ap : FnScope ["thing"] ["thing"] (defScope s_ap) := ⟨rfl, rfl, rfl, by decide +kernel, rfl, by decide +kernel, by decide +kernel⟩
theorem c_ap (D : Df K mg "is_alike_paper" s_ap) (T : Bt K w mg aB) (M : ∃ t, mg "MOST_MANY" = some (.int 6 t)) (F_word : Fnc P w K mg base "is_word" ["many", "thing"] 2 (spIsW K)) : Fnc P w K mg base "is_alike_paper" ["thing"] 3 spAP3 := by
  have sc := sc_ap
  refine D.ok sc (fun _ _ _ _ _ _ us hl => by obtain ⟨_, rfl⟩ := len1 hl; rfl) (fun vs H Q E h => ?_) (fun f cdv A outer s H vs Q E hr h => ?_)
  · obtain ⟨x, o, rfl, _⟩ := h
    rfl
  · obtain ⟨x, o, rfl, hx, k1, k0⟩ := h
    have l16 := line16
    obtain ⟨tM, mgM⟩ := M
    refine ⟨_, (@pss_one _ _ _ (@ps_ret _ _ _ _ (@pe_and _ _ _ _ _ _ _ (@pe_callB _ _ _ _ _ _ _ _ _ (@call_isK _ (K) rfl) (by rfl) T.isinstance b_isinstance (@pa_cons _ _ _ _ _ (pv 0) (@pa_cons _ _ _ _ _ (@pe_bltn _ _ (.ty "tuple") _ _ rfl T.tuple b_tuple rfl (by decide) (by decide)) pa_nil (by rfl)) (by rfl)) (by decide) (by decide) (by rfl) (by rfl)) (@pe_and _ _ _ _ _ _ _ (@pe_cmpR _ _ _ _ _ _ _ _ op_eq (@pe_callB _ _ _ _ _ _ _ _ _ call_len_seq (by rfl) T.len PySem.boot_len (@pa_cons _ _ _ _ _ (pv 0) pa_nil (by rfl)) (by decide) (by decide) (by rfl) (by rfl)) pe_int (nomark _)) (@pe_and _ _ _ _ _ _ _ (@pe_cmpR _ _ _ _ _ _ _ _ (@op_eq_dat _ (by exact hr.units)) (@pe_ix _ _ _ _ _ _ _ ix_tup (pv 0) pe_int (fun _ _ => rfl)) pe_str (nomark _)) (@pe_one _ _ _ _ _ (@pe_fn _ _ _ _ _ _ _ _ _ _ _ F_word hr (by decide) rfl (@pa_cons _ _ _ _ _ (@pe_glob _ _ (.int 6) _ _ rfl mgM ⟨_, rfl⟩ (by decide)) (@pa_cons _ _ _ _ _ (@pe_ix _ _ _ _ _ _ _ ix_tup (pv 0) pe_int (fun _ _ => rfl)) pa_nil (by rfl)) (by rfl)) (by decide) (by rfl) (by rfl)))))))), ?_⟩
    cases o with
    | none =>
      obtain ⟨n, ty, e⟩ := hx.no (K := K)
      exact ⟨_, rfl, _, _, _, _, rfl, ty, e, _, rfl, iteF (k0 (fun _ _ z => by cases z) _ (Same.refl _))⟩
    | some xs =>
      cases hx with
      | @tup t _ ht p hl =>
      refine ⟨_, rfl, _, _, _, _, rfl, .tup ht, kit_tupT, _, rfl, iteT ⟨_, rfl, t, _, rfl, .inr (SqT.of ht), rfl, _, rfl, ?_⟩⟩
      by_cases h2 : xs.length = 2
      · match xs, h2, ht, p, k1, k0 with
        | [x0, x1], _, ht, p, k1, k0 =>
        refine iteT ?_
        obtain ⟨d0, hd0, l0, dp0, q0⟩ := (p x0 (by simp)).dt
        refine ⟨_, rfl, t, _, _, _, rfl, rfl, SqT.of ht, rfl, d0, _, hd0, .str _, l0, lay_alike, dp0, _, rfl, ?_⟩
        rw [q0]
        by_cases e0 : x0 = .str "alike"
        · refine iteC (decide_eq_true e0) ?_
          refine ⟨_, rfl, t, _, _, _, rfl, rfl, SqT.of ht, rfl, 6, x1, rfl, by decide, by decide, (p x1 (by simp)).th, fun H1 s1 => ?_⟩
          cases hw : wdV 6 x1 with
          | true => exact k1 _ _ rfl e0 hw _ s1
          | false => exact k0 (fun y0 y1 z _ hw' => by cases z; rw [hw] at hw'; cases hw') _ s1
        · exact iteD (decide_eq_false e0) (k0 (fun y0 y1 z e _ => by cases z; exact e0 e) _ (Same.refl _))
      · exact iteD (decide_eq_false fun e => h2 (by have := V.int.inj e; omega)) (k0 (fun y0 y1 z _ _ => by cases z; exact h2 rfl) _ (Same.refl _))
noncomputable abbrev s_up : Stmt := top 27
theorem sc_up : FnScope ["thing"] ["thing"] (defScope s_up) := ⟨rfl, rfl, rfl, by decide +kernel, rfl, by decide +kernel, by decide +kernel⟩
theorem c_up (D : Df K mg "is_unlike_paper" s_up) (T : Bt K w mg aB) (M : ∃ t, mg "MOST_MANY" = some (.int 6 t)) (F_word : Fnc P w K mg base "is_word" ["many", "thing"] 2 (spIsW K)) : Fnc P w K mg base "is_unlike_paper" ["thing"] 3 spUP3 := by
  have sc := sc_up
  refine D.ok sc (fun _ _ _ _ _ _ us hl => by obtain ⟨_, rfl⟩ := len1 hl; rfl) (fun vs H Q E h => ?_) (fun f cdv A outer s H vs Q E hr h => ?_)
  · obtain ⟨x, o, rfl, _⟩ := h
    rfl
  · obtain ⟨x, o, rfl, hx, k1, k0⟩ := h
    have l16 := line16
    obtain ⟨tM, mgM⟩ := M
    refine ⟨_, (@pss_cons _ _ _ _ _ (@ps_if _ _ _ _ _ _ _ _ (@PW.pt _ _ _ (@pw_or _ _ _ _ _ _ _ (@pt_not _ _ _ _ (@pt_truth _ _ _ (@pe_callB _ _ _ _ _ _ _ _ _ (@call_isK _ (K) rfl) (by rfl) T.isinstance b_isinstance (@pa_cons _ _ _ _ _ (pv 0) (@pa_cons _ _ _ _ _ (@pe_bltn _ _ (.ty "tuple") _ _ rfl T.tuple b_tuple rfl (by decide) (by decide)) pa_nil (by rfl)) (by rfl)) (by decide) (by decide) (by rfl) (by rfl)) (fun _ => rfl))) (@pw_or _ _ _ _ _ _ _ (@pt_cmpR _ _ _ _ _ _ _ _ op_ne (@pe_callB _ _ _ _ _ _ _ _ _ call_len_seq (by rfl) T.len PySem.boot_len (@pa_cons _ _ _ _ _ (pv 0) pa_nil (by rfl)) (by decide) (by decide) (by rfl) (by rfl)) pe_int (nomark _)) (@pw_or1 _ _ _ _ (@pt_cmpR _ _ _ _ _ _ _ _ (@op_ne_dat _ (by exact hr.units)) (@pe_ix _ _ _ _ _ _ _ ix_tup (pv 0) pe_int (fun _ _ => rfl)) pe_str (nomark _)))))) (@pss_one _ _ _ (@ps_ret _ _ _ _ pe_bl)) pss_nil) (@pss_one _ _ _ (@ps_ret _ _ _ _ (@pe_and _ _ _ _ _ _ _ (@pe_fn _ _ _ _ _ _ _ _ _ _ _ F_word hr (by decide) rfl (@pa_cons _ _ _ _ _ (@pe_glob _ _ (.int 6) _ _ rfl mgM ⟨_, rfl⟩ (by decide)) (@pa_cons _ _ _ _ _ (@pe_ix _ _ _ _ _ _ _ ix_tup (pv 0) pe_int (fun _ _ => rfl)) pa_nil (by rfl)) (by rfl)) (by decide) (by rfl) (by rfl)) (@pe_one _ _ _ _ _ (@pe_fn _ _ _ _ _ _ _ _ _ _ _ F_word hr (by decide) rfl (@pa_cons _ _ _ _ _ (@pe_glob _ _ (.int 6) _ _ rfl mgM ⟨_, rfl⟩ (by decide)) (@pa_cons _ _ _ _ _ (@pe_ix _ _ _ _ _ _ _ ix_tup (pv 0) pe_int (fun _ _ => rfl)) pa_nil (by rfl)) (by rfl)) (by decide) (by rfl) (by rfl))))))), ?_⟩
    cases o with
    | none =>
      obtain ⟨n, ty, e⟩ := hx.no (K := K)
      exact ⟨_, rfl, _, _, _, _, rfl, ty, e, _, rfl, orkT (ifsT (k0 (fun _ _ _ z => by cases z) _ (Same.refl _)))⟩
    | some xs =>
      cases hx with
      | @tup t _ ht p hl =>
      refine ⟨_, rfl, _, _, _, _, rfl, .tup ht, kit_tupT, _, rfl, orkF ⟨_, rfl, t, _, rfl, .inr (SqT.of ht), rfl, _, rfl, ?_⟩⟩
      by_cases h2 : xs.length = 3
      · match xs, h2, ht, p, k1, k0 with
        | [x0, x1, x2], _, ht, p, k1, k0 =>
        refine iteD (by simp) ?_
        obtain ⟨d0, hd0, l0, dp0, q0⟩ := (p x0 (by simp)).dt
        refine ⟨_, rfl, t, _, _, _, rfl, rfl, SqT.of ht, rfl, d0, _, hd0, .str _, l0, lay_unlike, dp0, _, rfl, ?_⟩
        rw [q0]
        by_cases e0 : x0 = .str "unlike"
        · refine iteD (by rw [decide_eq_true e0]; rfl) ?_
          refine ⟨_, rfl, t, _, _, _, rfl, rfl, SqT.of ht, rfl, 6, x1, rfl, by decide, by decide, (p x1 (by simp)).th, fun H1 s1 => ?_⟩
          have ht1 := s1 _ _ ht
          cases hw : wdV 6 x1 with
          | false => exact ⟨_, rfl, iteF (k0 (fun y0 y1 y2 z _ hw' => by cases z; rw [hw] at hw'; cases hw'.1) _ s1)⟩
          | true =>
            refine ⟨_, rfl, iteT ⟨_, rfl, t, _, _, _, rfl, rfl, SqT.of ht1, rfl, 6, x2, rfl, by decide, by decide, ((p x2 (by simp)).same s1).th, fun H2 s2 => ?_⟩⟩
            cases hw2 : wdV 6 x2 with
            | true => exact k1 _ _ _ rfl e0 hw hw2 _ (s1.trans s2)
            | false => exact k0 (fun y0 y1 y2 z _ hw' => by cases z; rw [hw2] at hw'; cases hw'.2) _ (s1.trans s2)
        · exact iteC (by rw [decide_eq_false e0]; rfl) (k0 (fun y0 y1 y2 z e _ => by cases z; exact e0 e) _ (Same.refl _))
      · exact iteC (by rw [decide_eq_false fun e => h2 (by have := V.int.inj e; omega)]; rfl) (ifsT (k0 (fun y0 y1 y2 z _ _ => by cases z; exact h2 rfl) _ (Same.refl _)))
end
end Kx
set_option Elab.async false
set_option linter.all false
set_option maxRecDepth 100000
set_option maxHeartbeats 0
namespace Kx
open PySem PySem.Spec PyProof.Rows L2 Wd
section
variable {P : Program} {w : World} {K : PySem.W.Frag} {mg : Str → Option Value} {base : Heap} {aB : Addr}
noncomputable abbrev s_la : Stmt := top 28
theorem sc_la : FnScope ["one", "other", "by"] ["one", "other", "by"] (defScope s_la) := ⟨rfl, rfl, rfl, by decide +kernel, rfl, by decide +kernel, by decide +kernel⟩
theorem c_la {CT : Addr} (D : Df K mg "look_at_alike" s_la) (F_back : Fnc P w K mg base "back" ["word"] 1 spBk) (F_red : Fnc P w K mg base "reduced" ["word"] 1 spRed) (M_paper : XMk P w K mg base "NoPaper" CT ["word", "at"] 1) : FncX P w K mg base "look_at_alike" ["one", "other", "by"] 3 (spLA3 CT) := by
  have sc := sc_la
  refine D.okX sc (fun _ _ _ _ _ _ us hl => by obtain ⟨_, _, _, rfl⟩ := len3 hl; rfl) (fun vs H Q E h => ?_) (fun f cdv A outer s H vs Q E hr h => ?_)
  · obtain ⟨u, v, y, rfl, _⟩ := h
    rfl
  · obtain ⟨u, v, y, rfl, hu, hv, hy, k0, k1⟩ := h
    have l16 := line16
    refine ⟨_, (@pss_one _ _ _ (@ps_if _ _ _ _ _ _ _ _ (@pt_cmpR _ _ _ _ _ _ _ _ op_ne (@pe_fn _ _ _ _ _ _ _ _ _ _ _ F_red hr (by decide) rfl (@pa_cons _ _ _ _ _ (@pe_op _ _ _ _ _ _ _ _ op_add_str (@pe_op _ _ _ _ _ _ _ _ op_add_str (pv 2) (pv 0)) (@pe_fn _ _ _ _ _ _ _ _ _ _ _ F_back hr (by decide) rfl (@pa_cons _ _ _ _ _ (pv 2) pa_nil (by rfl)) (by decide) (by rfl) (by rfl))) pa_nil (by rfl)) (by decide) (by rfl) (by rfl)) (@pe_fn _ _ _ _ _ _ _ _ _ _ _ F_red hr (by decide) rfl (@pa_cons _ _ _ _ _ (pv 1) pa_nil (by rfl)) (by decide) (by rfl) (by rfl)) (nomark _)) (@pss_one _ _ _ (@ps_raiseX _ _ _ _ _ raises_def rfl (@pe_mk _ _ _ _ _ _ _ _ _ _ _ M_paper hr (by decide) rfl (@pa_cons _ _ _ _ _ pe_str (@pa_cons _ _ _ _ _ pe_int pa_nil (by rfl)) (by rfl)) (by decide) (by rfl) (by rfl)))) pss_nil)), ?_⟩
    refine ⟨_, rfl, _, rfl, _, _, rfl, rfl, (by rw [toS_length, toS_length]; omega), _, rfl, y, rfl, by omega, fun H1 s1 => ?_⟩
    refine ⟨_, _, rfl, rfl, (by rw [toS_append, toS_length, toS_length, List.length_append, bk_length]; omega), ?_⟩
    rw [toS_append, toS_append]
    refine ⟨y ++ u ++ bk y, rfl, (by rw [List.length_append, List.length_append, bk_length]; omega), fun H2 s2 => ?_⟩
    refine ⟨_, rfl, v, rfl, by omega, fun H3 s3 => ?_⟩
    have s13 := s1.trans (s2.trans s3)
    refine ⟨rfl, _, rfl, ?_⟩
    by_cases e : red (y ++ u ++ bk y) = red v
    · exact iteD (by rw [e]; simp) (k0 e _ s13)
    · refine iteC (by rw [dec_tx, decide_eq_false e]; rfl) ?_
      exact ⟨rfl, by decide, fun a dx ha hd ne => ⟨a, CT, some dx, rfl, by rw [upd_ne ne.symm, upd_same], M_paper.ca.1, k1 e a _ (new_paper (k := 0) ha hd ne) (s13.trans (new_sameP ha hd))⟩⟩
noncomputable abbrev s_lu : Stmt := top 29
theorem sc_lu : FnScope ["one", "other", "turn", "turned"] ["one", "other", "turn", "turned"] (defScope s_lu) := ⟨rfl, rfl, rfl, by decide +kernel, rfl, by decide +kernel, by decide +kernel⟩
theorem c_lu {CT : Addr} (D : Df K mg "look_at_unlike" s_lu) (F_lm : Fnc P w K mg base "least_middle" ["word"] 3 spLM) (M_paper : XMk P w K mg base "NoPaper" CT ["word", "at"] 1) : FncX P w K mg base "look_at_unlike" ["one", "other", "turn", "turned"] 4 (spLU3 CT) := by
  have sc := sc_lu
  refine D.okX sc (fun _ _ _ _ _ _ us hl => by obtain ⟨_, _, _, _, rfl⟩ := len4 hl; rfl) (fun vs H Q E h => ?_) (fun f cdv A outer s H vs Q E hr h => ?_)
  · obtain ⟨u, v, a, b, s1, s2, rfl, _⟩ := h
    rfl
  · obtain ⟨u, v, a, b, t1, t2, rfl, hu, hv, la, lb, k0, k1⟩ := h
    refine ⟨_, (@pss_cons _ _ _ _ _ (@ps_if _ _ _ _ _ _ _ _ (@pt_cmpR _ _ _ _ _ _ _ _ op_ne (pv 2) (@pe_fn _ _ _ _ _ _ _ _ _ _ _ F_lm hr (by decide) rfl (@pa_cons _ _ _ _ _ (pv 0) pa_nil (by rfl)) (by decide) (by rfl) (by rfl)) (nomark _)) (@pss_one _ _ _ (@ps_raiseX _ _ _ _ _ raises_def rfl (@pe_mk _ _ _ _ _ _ _ _ _ _ _ M_paper hr (by decide) rfl (@pa_cons _ _ _ _ _ pe_str (@pa_cons _ _ _ _ _ pe_int pa_nil (by rfl)) (by rfl)) (by decide) (by rfl) (by rfl)))) pss_nil) (@pss_cons _ _ _ _ _ (@ps_if _ _ _ _ _ _ _ _ (@pt_cmpR _ _ _ _ _ _ _ _ op_ne (pv 3) (@pe_fn _ _ _ _ _ _ _ _ _ _ _ F_lm hr (by decide) rfl (@pa_cons _ _ _ _ _ (pv 1) pa_nil (by rfl)) (by decide) (by rfl) (by rfl)) (nomark _)) (@pss_one _ _ _ (@ps_raiseX _ _ _ _ _ raises_def rfl (@pe_mk _ _ _ _ _ _ _ _ _ _ _ M_paper hr (by decide) rfl (@pa_cons _ _ _ _ _ pe_str (@pa_cons _ _ _ _ _ pe_int pa_nil (by rfl)) (by rfl)) (by decide) (by rfl) (by rfl)))) pss_nil) (@pss_one _ _ _ (@ps_if _ _ _ _ _ _ _ _ (@pt_cmpR _ _ _ _ _ _ _ _ op_eq (pv 2) (pv 3) (nomark _)) (@pss_one _ _ _ (@ps_raiseX _ _ _ _ _ raises_def rfl (@pe_mk _ _ _ _ _ _ _ _ _ _ _ M_paper hr (by decide) rfl (@pa_cons _ _ _ _ _ pe_str (@pa_cons _ _ _ _ _ pe_int pa_nil (by rfl)) (by rfl)) (by decide) (by rfl) (by rfl)))) pss_nil)))), ?_⟩
    refine ⟨_, rfl, _, rfl, u, rfl, by omega, fun m fr md H1 hC hL s1 => ?_⟩
    obtain rfl : a = m := la.one ⟨fr, md, hC, hL⟩
    refine ⟨rfl, _, rfl, ?_⟩
    by_cases e1 : t1 = a
    · refine iteD (by rw [e1]; simp) ?_
      refine ⟨_, rfl, _, rfl, v, rfl, by omega, fun m2 fr2 md2 H2 hC2 hL2 s2 => ?_⟩
      obtain rfl : b = m2 := lb.one ⟨fr2, md2, hC2, hL2⟩
      refine ⟨rfl, _, rfl, ?_⟩
      by_cases e2 : t2 = b
      · refine iteD (by rw [e2]; simp) ?_
        refine ⟨_, rfl, _, rfl, rfl, _, rfl, ?_⟩
        by_cases e3 : t1 = t2
        · have eo : luO a b t1 t2 = some 2 := by unfold luO; rw [if_neg (fun h => h e1), if_neg (fun h => h e2), if_pos e3]
          refine iteC (decide_eq_true (by rw [e3])) ?_
          exact ⟨rfl, by decide, fun a dx ha hd ne => ⟨a, CT, some dx, rfl, by rw [upd_ne ne.symm, upd_same], M_paper.ca.1, k1 _ eo a _ (new_paper (k := 2) ha hd ne) ((s1.trans s2).trans (new_sameP ha hd))⟩⟩
        · have eo : luO a b t1 t2 = none := by unfold luO; rw [if_neg (fun h => h e1), if_neg (fun h => h e2), if_neg e3]
          refine iteD (decide_eq_false fun e => e3 (V.str.inj e)) ?_
          exact k0 eo _ (s1.trans s2)
      · have eo : luO a b t1 t2 = some 1 := by unfold luO; rw [if_neg (fun h => h e1), if_pos e2]
        refine iteC (by rw [decide_eq_false fun e => e2 (V.str.inj e)]; rfl) ?_
        exact ⟨rfl, by decide, fun a dx ha hd ne => ⟨a, CT, some dx, rfl, by rw [upd_ne ne.symm, upd_same], M_paper.ca.1, k1 _ eo a _ (new_paper (k := 1) ha hd ne) ((s1.trans s2).trans (new_sameP ha hd))⟩⟩
    · have eo : luO a b t1 t2 = some 0 := by unfold luO; rw [if_pos e1]
      refine iteC (by rw [decide_eq_false fun e => e1 (V.str.inj e)]; rfl) ?_
      exact ⟨rfl, by decide, fun a dx ha hd ne => ⟨a, CT, some dx, rfl, by rw [upd_ne ne.symm, upd_same], M_paper.ca.1, k1 _ eo a _ (new_paper (k := 0) ha hd ne) (s1.trans (new_sameP ha hd))⟩⟩
noncomputable abbrev s_lets : Stmt := top 25
theorem sc_lets : FnScope ["one", "other", "thing"] ["one", "other", "thing"] (defScope s_lets) := ⟨rfl, rfl, rfl, by decide +kernel, rfl, by decide +kernel, by decide +kernel⟩
theorem c_lets {CT : Addr} (D : Df K mg "lets_turning" s_lets) (T : Bt K w mg aB) (F_ap : Fnc P w K mg base "is_alike_paper" ["thing"] 3 spAP3) (F_up : Fnc P w K mg base "is_unlike_paper" ["thing"] 3 spUP3) (F_la : FncX P w K mg base "look_at_alike" ["one", "other", "by"] 3 (spLA3 CT)) (F_lu : FncX P w K mg base "look_at_unlike" ["one", "other", "turn", "turned"] 4 (spLU3 CT)) (M_paper : XMk P w K mg base "NoPaper" CT ["word", "at"] 1) : FncX P w K mg base "lets_turning" ["one", "other", "thing"] 5 (spLets3 CT) := by
  have sc := sc_lets
  refine D.okX sc (fun _ _ _ _ _ _ us hl => by obtain ⟨_, _, _, rfl⟩ := len3 hl; rfl) (fun vs H Q E h => ?_) (fun f cdv A outer s H vs Q E hr h => ?_)
  · obtain ⟨u, v, a, b, x, o, rfl, _⟩ := h
    rfl
  · obtain ⟨u, v, a, b, x, o, rfl, hu, hv, la, lb, hx, k0, k1⟩ := h
    have l16 := line16
    refine ⟨_, (@pss_cons _ _ _ _ _ (@ps_if _ _ _ _ _ _ _ _ (@pt_truth _ _ _ (@pe_fn _ _ _ _ _ _ _ _ _ _ _ F_ap hr (by decide) rfl (@pa_cons _ _ _ _ _ (pv 2) pa_nil (by rfl)) (by decide) (by rfl) (by rfl)) (fun _ => rfl)) (@pss_one _ _ _ (@ps_expr _ _ _ _ (@pe_fnX _ _ _ _ _ _ _ _ _ _ _ _ F_la hr (by decide) passes_def rfl (@pa_cons _ _ _ _ _ (pv 0) (@pa_cons _ _ _ _ _ (pv 1) (@pa_cons _ _ _ _ _ (@pe_ix _ _ _ _ _ _ _ ix_tup (pv 2) pe_int (fun _ _ => rfl)) pa_nil (by rfl)) (by rfl)) (by rfl)) (by decide) (by rfl) (by rfl)) (by rfl))) (@pss_one _ _ _ (@ps_if _ _ _ _ _ _ _ _ (@pt_truth _ _ _ (@pe_fn _ _ _ _ _ _ _ _ _ _ _ F_up hr (by decide) rfl (@pa_cons _ _ _ _ _ (pv 2) pa_nil (by rfl)) (by decide) (by rfl) (by rfl)) (fun _ => rfl)) (@pss_one _ _ _ (@ps_expr _ _ _ _ (@pe_fnX _ _ _ _ _ _ _ _ _ _ _ _ F_lu hr (by decide) passes_def rfl (@pa_cons _ _ _ _ _ (pv 0) (@pa_cons _ _ _ _ _ (pv 1) (@pa_cons _ _ _ _ _ (@pe_ix _ _ _ _ _ _ _ ix_tup (pv 2) pe_int (fun _ _ => rfl)) (@pa_cons _ _ _ _ _ (@pe_ix _ _ _ _ _ _ _ ix_tup (pv 2) pe_int (fun _ _ => rfl)) pa_nil (by rfl)) (by rfl)) (by rfl)) (by rfl)) (by decide) (by rfl) (by rfl)) (by rfl))) (@pss_one _ _ _ (@ps_raiseX _ _ _ _ _ raises_def rfl (@pe_mk _ _ _ _ _ _ _ _ _ _ _ M_paper hr (by decide) rfl (@pa_cons _ _ _ _ _ pe_str (@pa_cons _ _ _ _ _ pe_int pa_nil (by rfl)) (by rfl)) (by decide) (by rfl) (by rfl))))))) (@pss_one _ _ _ (@ps_ret _ _ _ _ pe_bl))), ?_⟩
    refine ⟨_, rfl, x, o, rfl, hx, fun x0 x1 eo e0 hw H1 s1 => ?_, fun no H1 s1 => ?_⟩
    · subst eo e0
      cases hx with
      | @tup t _ ht p hl =>
      have hwl := wd_len hw (p x1 (by simp))
      have ex := wd_vW hw
      have ho : out3 u v a b (some [.str "alike", x1]) = if red (vW x1 ++ u ++ bk (vW x1)) = red v then none else some (("by" : Str), 0) := by
        show (if _ then _ else _) = _
        rw [if_pos ⟨rfl, hw⟩]
      rw [ho] at k0 k1
      generalize vW x1 = y at ex hwl k0 k1
      subst ex
      refine ⟨_, rfl, iteC rfl ?_⟩
      refine ⟨_, rfl, _, rfl, _, rfl, t, _, _, _, rfl, rfl, SqT.of (s1 _ _ ht), rfl, u, v, y, rfl, by omega, by omega, hwl, fun e H2 s2 => ?_, fun e c H2 xp s2 => ?_⟩
      · exact k0 (if_pos e) _ (s1.trans s2)
      · exact k1 _ _ (if_neg e) c _ xp (s1.trans s2)
    · refine ⟨_, rfl, iteD rfl ?_⟩
      refine ⟨_, rfl, x, o, rfl, hx.same s1, fun x0 x1 x2 eo e0 hw hw2 H2 s2 => ?_, fun no2 H2 s2 => ?_⟩
      · subst eo e0
        cases hx with
        | @tup t _ ht p hl =>
        have ex := wd_vW hw
        have ex2 := wd_vW hw2
        have ho : out3 u v a b (some [.str "unlike", x1, x2]) = (if x1 ≠ .str a then some (("turn" : Str), 0) else if x2 ≠ .str b then some (("turn" : Str), 1) else if x1 = x2 then some (("turn" : Str), 2) else none) := by
          show (if _ then _ else _) = _
          rw [if_pos ⟨rfl, hw, hw2⟩]
        rw [ho] at k0 k1
        generalize vW x1 = y1 at ex
        generalize vW x2 = y2 at ex2
        subst ex ex2
        have ht2 := s2 _ _ (s1 _ _ ht)
        refine ⟨_, rfl, iteC rfl ?_⟩
        refine ⟨_, rfl, _, rfl, _, rfl, t, _, _, _, rfl, rfl, SqT.of ht2, rfl, _, rfl, t, _, _, _, rfl, rfl, SqT.of ht2, rfl, u, v, a, b, _, _, rfl, by omega, by omega, la, lb, fun e H3 s3 => ?_, fun j e c H3 xp s3 => ?_⟩
        · refine k0 ?_ _ ((s1.trans s2).trans s3)
          unfold luO at e
          split at e
          · cases e
          · rename_i h1
            split at e
            · cases e
            · rename_i h2
              split at e
              · cases e
              · rename_i h3
                have h1 : toS y1 = a := Classical.not_not.mp h1
                have h2 : toS y2 = b := Classical.not_not.mp h2
                have g1 : tx y1 = V.str a := congrArg V.str h1
                have g2 : tx y2 = V.str b := congrArg V.str h2
                have g3 : ¬ tx y1 = tx y2 := fun h => h3 (V.str.inj h)
                rw [if_neg (fun h => h g1), if_neg (fun h => h g2), if_neg g3]
        · refine k1 "turn" j ?_ c _ xp ((s1.trans s2).trans s3)
          unfold luO at e
          split at e
          · rename_i h1
            cases e
            have g1 : tx y1 ≠ V.str a := fun h => h1 (V.str.inj h)
            rw [if_pos g1]
          · rename_i h1
            have h1 : toS y1 = a := Classical.not_not.mp h1
            have g1 : tx y1 = V.str a := congrArg V.str h1
            rw [if_neg (fun h => h g1)]
            split at e
            · rename_i h2
              cases e
              have g2 : tx y2 ≠ V.str b := fun h => h2 (V.str.inj h)
              rw [if_pos g2]
            · rename_i h2
              have h2 : toS y2 = b := Classical.not_not.mp h2
              have g2 : tx y2 = V.str b := congrArg V.str h2
              rw [if_neg (fun h => h g2)]
              split at e
              · rename_i h3
                cases e
                have g3 : tx y1 = tx y2 := congrArg V.str h3
                rw [if_pos g3]
              · cases e
      · have eo : out3 u v a b o = some (("shape" : Str), 0) := by
          unfold out3
          split
          · rw [if_neg fun h => no _ _ rfl h.1 h.2]
          · rw [if_neg fun h => no2 _ _ _ rfl h.1 h.2]
          · rfl
        refine ⟨_, rfl, iteD rfl ?_⟩
        exact ⟨rfl, by decide, fun a dx ha hd ne => ⟨a, CT, some dx, rfl, by rw [upd_ne ne.symm, upd_same], M_paper.ca.1, k1 _ _ eo a _ (new_paper (k := 0) ha hd ne) ((s1.trans s2).trans (new_sameP ha hd))⟩⟩
end
end Kx
set_option Elab.async false
set_option linter.all false
set_option maxRecDepth 100000
set_option maxHeartbeats 0
namespace Kx
open PySem PySem.Spec PyProof.Rows L2 Wd
section
variable {P : Program} {w : World} {K : PySem.W.Frag} {mg : Str → Option Value} {base : Heap} {aB : Addr}
noncomputable abbrev s_turning : Stmt := top 31
theorem sc_turning : FnScope ["one", "other", "turn", "turned", "mine", "theirs", "ahead"] ["one", "other"] (defScope s_turning) := ⟨rfl, rfl, rfl, by decide +kernel, rfl, by decide +kernel, by decide +kernel⟩
theorem c_turning (D : Df K mg "turning" s_turning) (T : Bt K w mg aB) (F_back : Fnc P w K mg base "back" ["word"] 1 spBk) (F_red : Fnc P w K mg base "reduced" ["word"] 1 spRed) (F_core : Fnc P w K mg base "core" ["word"] 2 spCore) (F_lm : Fnc P w K mg base "least_middle" ["word"] 3 spLM) : Fnc P w K mg base "turning" ["one", "other"] 4 spTurning := by
  have sc := sc_turning
  refine D.ok sc (fun _ _ _ _ _ _ us hl => by obtain ⟨_, _, rfl⟩ := len2 hl; rfl) (fun vs H Q E h => ?_) (fun f cdv A outer s H vs Q E hr h => ?_)
  · obtain ⟨u, v, rfl, _⟩ := h
    rfl
  · obtain ⟨u, v, rfl, hu, hv, k⟩ := h
    have l16 := line16
    have hru := red_length u
    have hrv := red_length v
    refine ⟨_, (@pss_cons _ _ _ _ _ (@ps_set _ _ (2) _ _ _ _ sc.nd rfl (Or.inl rfl) (@pe_fn _ _ _ _ _ _ _ _ _ _ _ F_lm hr (by decide) rfl (@pa_cons _ _ _ _ _ (pv 0) pa_nil (by rfl)) (by decide) (by rfl) (by rfl)) (by rfl) (by first | exact .inl rfl | exact .inr rfl | assumption)) (@pss_cons _ _ _ _ _ (@ps_set _ _ (3) _ _ _ _ sc.nd rfl (Or.inl rfl) (@pe_fn _ _ _ _ _ _ _ _ _ _ _ F_lm hr (by decide) rfl (@pa_cons _ _ _ _ _ (pv 1) pa_nil (by rfl)) (by decide) (by rfl) (by rfl)) (by rfl) (by first | exact .inl rfl | exact .inr rfl | assumption)) (@pss_cons _ _ _ _ _ (@ps_if _ _ _ _ _ _ _ _ (@pt_cmpR _ _ _ _ _ _ _ _ op_ne (pv 2) (pv 3) (nomark _)) (@pss_one _ _ _ (@ps_ret _ _ _ _ (@pe_tup _ _ _ _ _ (@pa_cons _ _ _ _ _ pe_str (@pa_cons _ _ _ _ _ (pv 2) (@pa_cons _ _ _ _ _ (pv 3) pa_nil (by rfl)) (by rfl)) (by rfl))))) pss_nil) (@pss_cons _ _ _ _ _ (@ps_set _ _ (4) _ _ _ _ sc.nd rfl (Or.inl rfl) (@pe_fn _ _ _ _ _ _ _ _ _ _ _ F_core hr (by decide) rfl (@pa_cons _ _ _ _ _ (pv 0) pa_nil (by rfl)) (by decide) (by rfl) (by rfl)) (by rfl) (by first | exact .inl rfl | exact .inr rfl | assumption)) (@pss_cons _ _ _ _ _ (@ps_set _ _ (5) _ _ _ _ sc.nd rfl (Or.inl rfl) (@pe_fn _ _ _ _ _ _ _ _ _ _ _ F_core hr (by decide) rfl (@pa_cons _ _ _ _ _ (pv 1) pa_nil (by rfl)) (by decide) (by rfl) (by rfl)) (by rfl) (by first | exact .inl rfl | exact .inr rfl | assumption)) (@pss_cons _ _ _ _ _ (@ps_set _ _ (6) _ _ _ _ sc.nd rfl (Or.inl rfl) (@pe_slice _ _ _ _ _ _ _ _ _ _ sl_str (@pe_ix _ _ _ _ _ _ _ ix_tup (pv 4) pe_int (fun _ _ => rfl)) po_none (@po_some _ _ _ (@pe_bm _ _ _ _ _ _ _ _ _ _ _ _ PySem.F.plainAttrs_str PySem.F.slot_str_find PySem.F.type_str_find mt_find1 (@pe_op _ _ _ _ _ _ _ _ op_add_str (@pe_ix _ _ _ _ _ _ _ ix_tup (pv 4) pe_int (fun _ _ => rfl)) (@pe_ix _ _ _ _ _ _ _ ix_tup (pv 4) pe_int (fun _ _ => rfl))) (@pa_cons _ _ _ _ _ (@pe_ix _ _ _ _ _ _ _ ix_tup (pv 5) pe_int (fun _ _ => rfl)) pa_nil (by rfl)) (by rfl) (by rfl) (by rfl) (by rfl) (by rfl)))) (by rfl) (by first | exact .inl rfl | exact .inr rfl | assumption)) (@pss_one _ _ _ (@ps_ret _ _ _ _ (@pe_tup _ _ _ _ _ (@pa_cons _ _ _ _ _ pe_str (@pa_cons _ _ _ _ _ (@pe_fn _ _ _ _ _ _ _ _ _ _ _ F_red hr (by decide) rfl (@pa_cons _ _ _ _ _ (@pe_op _ _ _ _ _ _ _ _ op_add_str (@pe_op _ _ _ _ _ _ _ _ op_add_str (@pe_ix _ _ _ _ _ _ _ ix_tup (pv 5) pe_int (fun _ _ => rfl)) (@pe_fn _ _ _ _ _ _ _ _ _ _ _ F_back hr (by decide) rfl (@pa_cons _ _ _ _ _ (pv 6) pa_nil (by rfl)) (by decide) (by rfl) (by rfl))) (@pe_fn _ _ _ _ _ _ _ _ _ _ _ F_back hr (by decide) rfl (@pa_cons _ _ _ _ _ (@pe_ix _ _ _ _ _ _ _ ix_tup (pv 4) pe_int (fun _ _ => rfl)) pa_nil (by rfl)) (by decide) (by rfl) (by rfl))) pa_nil (by rfl)) (by decide) (by rfl) (by rfl)) pa_nil (by rfl)) (by rfl))))))))))), ?_⟩
    refine ⟨_, rfl, u, rfl, by omega, fun a f1 m1 H1 hC1 hL1 s1 => ?_⟩
    refine ⟨_, rfl, v, rfl, by omega, fun b f2 m2 H2 hC2 hL2 s2 => ?_⟩
    have la : LMof u a := ⟨f1, m1, hC1, hL1⟩
    have lb : LMof v b := ⟨f2, m2, hC2, hL2⟩
    refine ⟨_, rfl, _, rfl, rfl, _, rfl, ?_⟩
    by_cases e : a = b
    · refine iteD (by rw [e]; simp) ?_
      obtain ⟨e1, r1⟩ := core_rnd hC1 (rd_red u)
      obtain ⟨e2, r2⟩ := core_rnd hC2 (rd_red v)
      have hlen1 : 2 * f1.length + m1.length ≤ u.length := by
        have := congrArg List.length e1
        simp only [List.length_append, bk_length] at this
        omega
      have hlen2 : 2 * f2.length + m2.length ≤ v.length := by
        have := congrArg List.length e2
        simp only [List.length_append, bk_length] at this
        omega
      obtain ⟨i, hi, hf, hp⟩ := find_rt ((least_rt hL1 hL2).mp e)
      refine ⟨_, rfl, u, rfl, by omega, fun fa ma pa H3 hCa _ ha s3 => ?_⟩
      obtain ⟨rfl, rfl⟩ := Prod.mk.inj (hC1.one hCa)
      refine ⟨_, rfl, v, rfl, by omega, fun fb mb pb H4 hCb _ hb s4 => ?_⟩
      obtain ⟨rfl, rfl⟩ := Prod.mk.inj (hC2.one hCb)
      have ha4 := s4 _ _ ha
      have w1 : (toS m1).length ≤ sizeLine := by rw [toS_length]; omega
      refine ⟨_, rfl, pa, _, _, _, rfl, rfl, SqT.of ha4, rfl, _, rfl, pa, _, _, _, rfl, rfl, SqT.of ha4, rfl, _, rfl, pa, _, _, _, rfl, rfl, SqT.of ha4, rfl, _, _, rfl, rfl, (by rw [toS_length]; omega), rfl, _, rfl, pb, _, _, _, rfl, rfl, SqT.of hb, rfl, _, _, rfl, rfl, ?_⟩
      rw [toS_append, hf]
      refine ⟨_, rfl, _, rfl, w1, ?_⟩
      rw [slice_toS, cut_to _ (by omega), Int.toNat_natCast]
      have hti : (m1.take i).length ≤ m1.length := by rw [List.length_take]; omega
      refine ⟨_, rfl, pb, _, _, _, rfl, rfl, SqT.of hb, rfl, _, rfl, m1.take i, rfl, by omega, fun H5 s5 => ?_⟩
      refine ⟨_, _, rfl, rfl, (by rw [toS_length, toS_length, bk_length]; omega), ?_⟩
      refine ⟨_, rfl, pa, _, _, _, rfl, rfl, SqT.of (s5 _ _ ha4), rfl, f1, rfl, by omega, fun H6 s6 => ?_⟩
      refine ⟨_, _, rfl, rfl, (by rw [toS_append, toS_length, toS_length, List.length_append, bk_length, bk_length]; omega), ?_⟩
      rw [toS_append, toS_append]
      have hbl : (f2 ++ bk (m1.take i) ++ bk f1).length ≤ u.length + v.length := by rw [List.length_append, List.length_append, bk_length, bk_length]; omega
      have hbr := red_length (f2 ++ bk (m1.take i) ++ bk f1)
      refine ⟨f2 ++ bk (m1.take i) ++ bk f1, rfl, by omega, fun H7 s7 => ⟨(by show 2 ≤ sizeLine; omega), fun t ht => ?_⟩⟩
      have s17 := (s1.trans s2).trans (s3.trans (s4.trans (s5.trans (s6.trans s7))))
      exact k t _ (s17.then ht) (.al _ upd_same (by omega) (turn_by e1 e2 hp))
    · refine iteC (by rw [Bool.not_eq_true', decide_eq_false_iff_not]; exact fun z => e (V.str.inj z)) ?_
      refine ⟨_, rfl, _, rfl, (by show 3 ≤ sizeLine; omega), fun t ht => ?_⟩
      exact k t _ ((s1.trans s2).then ht) (.un a b upd_same la lb e)
end
end Kx
set_option Elab.async false
set_option linter.all false
set_option maxRecDepth 100000
set_option maxHeartbeats 0
namespace Kx
open PySem PySem.Spec PyProof.Rows L2 Wd
section
variable {P : Program} {w : World} {K : PySem.W.Frag} {mg : Str → Option Value} {base : Heap} {aB : Addr}
noncomputable abbrev s_ll : Stmt := top 39
theorem sc_ll : FnScope ["_law_word", "_law_short"] ["_law_word"] (defScope s_ll) := ⟨rfl, rfl, rfl, by decide +kernel, rfl, by decide +kernel, by decide +kernel⟩
theorem c_ll (D : Df K mg "_law_least" s_ll) (T : Bt K w mg aB) (F_lback : Fnc P w K mg base "_law_back" ["_law_word"] 1 spBk) (F_lred : Fnc P w K mg base "_law_reduced" ["_law_word"] 2 spRed) : Fnc P w K mg base "_law_least" ["_law_word"] 3 spLL := by
  have sc := sc_ll
  refine D.ok sc (fun _ _ _ _ _ _ us hl => by obtain ⟨_, rfl⟩ := len1 hl; rfl) (fun vs H Q E h => ?_) (fun f cdv A outer s H vs Q E hr h => ?_)
  · obtain ⟨u, rfl, _⟩ := h
    rfl
  · obtain ⟨u, rfl, hu, k⟩ := h
    have l16 := line16
    have hru := red_length u
    refine ⟨_, (@pss_cons _ _ _ _ _ (@ps_set _ _ (1) _ _ _ _ sc.nd rfl (Or.inr rfl) (@pe_fn _ _ _ _ _ _ _ _ _ _ _ F_lred hr (by decide) rfl (@pa_cons _ _ _ _ _ (pv 0) pa_nil (by rfl)) (by decide) (by rfl) (by rfl)) (by rfl) (by first | exact .inl rfl | exact .inr rfl | assumption)) (@pss_cons _ _ _ _ _ (@ps_while _ _ _ _ _ _ PassesOwn.never (@PW.pt _ _ _ (@pw_and _ _ _ _ _ _ _ (@pt_cmpR _ _ _ _ _ _ _ _ op_gt (@pe_callB _ _ _ _ _ _ _ _ _ call_len_str (by rfl) T.len PySem.boot_len (@pa_cons _ _ _ _ _ (pv 1) pa_nil (by rfl)) (by decide) (by decide) (by rfl) (by rfl)) pe_int (nomark _)) (@pw_and1 _ _ _ _ (@pt_cmpR _ _ _ _ _ _ _ _ op_eq (@pe_ix _ _ _ _ _ _ _ ix_str (pv 1) pe_int (fun _ _ => rfl)) (@pe_fn _ _ _ _ _ _ _ _ _ _ _ F_lback hr (by decide) rfl (@pa_cons _ _ _ _ _ (@pe_ix _ _ _ _ _ _ _ ix_str (pv 1) (@pe_op _ _ _ _ _ _ _ _ op_sub (@pe_callB _ _ _ _ _ _ _ _ _ call_len_str (by rfl) T.len PySem.boot_len (@pa_cons _ _ _ _ _ (pv 1) pa_nil (by rfl)) (by decide) (by decide) (by rfl) (by rfl)) pe_int) (fun _ _ => rfl)) pa_nil (by rfl)) (by decide) (by rfl) (by rfl)) (nomark _))))) (@pss_one _ _ _ (@ps_set _ _ (1) _ _ _ _ sc.nd rfl (Or.inr rfl) (@pe_slice _ _ _ _ _ _ _ _ _ _ sl_str (pv 1) (@po_some _ _ _ pe_int) (@po_some _ _ _ (@pe_op _ _ _ _ _ _ _ _ op_sub (@pe_callB _ _ _ _ _ _ _ _ _ call_len_str (by rfl) T.len PySem.boot_len (@pa_cons _ _ _ _ _ (pv 1) pa_nil (by rfl)) (by decide) (by decide) (by rfl) (by rfl)) pe_int))) (by rfl) (by first | exact .inl rfl | exact .inr rfl | assumption)))) (@pss_one _ _ _ (@ps_ret _ _ _ _ (@pe_ix _ _ _ _ _ _ _ ix_list (@pe_callB _ _ _ _ _ _ _ _ _ call_sorted_strs (by rfl) T.sorted b_sorted (@pa_cons _ _ _ _ _ (@pe_comp _ _ _ _ _ _ _ (["_law_k", "_law_short"]) (["_law_k"]) ([1]) _ _ _ _ (@blk_of _ _ _ _ _ _ rfl (by kernel_rfl)) rfl (@pi_range1 _ _ _ _ _ _ rfl T.range (@pa_cons _ _ _ _ _ (@pe_callB _ _ _ _ _ _ _ _ _ (@call_max2 _ rfl) (by rfl) T.max b_max (@pa_cons _ _ _ _ _ pe_int (@pa_cons _ _ _ _ _ (@pe_callB _ _ _ _ _ _ _ _ _ call_len_str (by rfl) T.len PySem.boot_len (@pa_cons _ _ _ _ _ (pv 1) pa_nil (by rfl)) (by decide) (by decide) (by rfl) (by rfl)) pa_nil (by rfl)) (by rfl)) (by decide) (by decide) (by rfl) (by rfl)) pa_nil (by rfl)) (by rfl)) (fun _ _ _ _ => @pg_name _ _ (0) _ (show (["_law_k", "_law_short"] : List Str).Nodup from by decide +kernel) rfl (Or.inl rfl) (by first | exact .inl rfl | exact .inr rfl | assumption)) (fun _ _ _ _ => pifs_nil) (fun _ _ _ _ => by (exact @pe_op _ _ _ _ _ _ _ _ op_add_str (by (exact (@pe_slice _ _ _ _ _ _ _ _ _ _ sl_str (pv 1) (@po_some _ _ _ (pv 0)) po_none))) (by (exact (@pe_slice _ _ _ _ _ _ _ _ _ _ sl_str (pv 1) po_none (@po_some _ _ _ (pv 0))))))) (by intro _ ; rfl)) pa_nil (by rfl)) (by decide) (by decide) (by rfl) (by rfl)) pe_int (fun _ _ => rfl)))))), ?_⟩
    refine ⟨_, rfl, u, rfl, by omega, fun H1 s1 => ?_⟩
    refine while_to (fun n σ H' => ∃ (fr md : List L), σ = [some (tx u), some (tx md)] ∧ Same H H' ∧ (∀ r, Core fr md r → Core [] (red u) r) ∧ fr.length + md.length ≤ u.length ∧ n = md.length) (fun σ H' => ∃ (fr md : List L), σ = [some (tx u), some (tx md)] ∧ Same H H' ∧ Core [] (red u) (fr, md) ∧ md.length ≤ u.length) ⟨_, [], red u, rfl, s1, fun _ q => q, (by simp only [List.length_nil]; omega), rfl⟩ ?_ ?_
    · rintro nx hnx n σ H2 ⟨fr, md, rfl, s2, hC, hl, rfl⟩
      have fin : (∀ x mid, md ≠ x :: (mid ++ [inv x])) → ∀ H3, Same H H3 → nx [some (tx u), some (tx md)] H3 := fun hn H3 s3 => hnx _ _ ⟨fr, md, rfl, s3, hC _ (.stop fr md hn), by omega⟩
      have hmd : (toS md).length ≤ sizeLine := by rw [toS_length]; omega
      by_cases h1 : 1 < md.length
      · refine ⟨_, rfl, _, rfl, hmd, _, _, rfl, rfl, _, rfl, iteC (by rw [toS_length]; exact decide_eq_true (by omega)) ?_⟩
        obtain ⟨x, mid, z, rfl⟩ := two_ends h1
        refine ⟨_, rfl, _, _, cp x, rfl, rfl, hmd, atI_toS (k := 0) rfl rfl, _, rfl, _, rfl, _, rfl, hmd, _, _, rfl, rfl, _, _, cp z, rfl, rfl, hmd, atI_toS (k := mid.length + 1) ?_ ?_, [z], rfl, (by show 1 ≤ 5000; decide), fun H3 s3 => ⟨rfl, _, rfl, ?_⟩⟩
        · rw [toS_length]; simp
        · simp
        show if decide (tx [x] = tx (bk [z])) = true then _ else _
        rw [dec_tx, bk_one]
        refine ite2 (fun h => ?_) (fun h => ?_)
        · have h : x = inv z := by simpa using h
          have h : z = inv x := by rw [h, inv_inv]
          subst h
          refine ⟨_, fun σ' H' q => q, ?_⟩
          refine ⟨_, rfl, _, rfl, _, rfl, _, rfl, hmd, _, _, rfl, rfl, _, rfl, _, rfl, hmd, ?_⟩
          rw [slice_toS, toS_length, cut_ends2]
          rw [core_front] at hl
          refine ⟨mid.length, by rw [core_front]; omega, fr ++ [x], mid, rfl, s2.trans s3, fun q hq => hC q (.step fr x mid q hq), ?_, rfl⟩
          rw [List.length_append, List.length_singleton]
          omega
        · have h : ¬ x = inv z := by simpa using h
          exact fin (fun y m2 e => by
            obtain ⟨e1, e2⟩ := List.cons.inj e
            subst e1
            have e3 := List.append_inj_right' e2 rfl
            exact h (by rw [(List.cons.inj e3).1, inv_inv])) _ (s2.trans s3)
      · refine ⟨_, rfl, _, rfl, hmd, _, _, rfl, rfl, _, rfl, iteD (by rw [toS_length]; exact decide_eq_false (by omega)) (iteF ?_)⟩
        exact fin (fun x mid e => by rw [e, core_front] at h1; omega) _ s2
    · rintro σ H2 ⟨fr, md, rfl, s2, hC, hml⟩
      have hw : (toS md).length ≤ sizeLine := by rw [toS_length]; omega
      refine ⟨_, rfl, _, rfl, hw, 1, _, rfl, ?_⟩
      have em : (if (((toS md).length : Nat) : Int) > 1 then (((toS md).length : Nat) : Int) else 1) = ((max 1 md.length : Nat) : Int) := by rw [toS_length]; split <;> omega
      rw [em]
      refine ⟨_, rfl, by omega, by omega, ?_⟩
      rw [Int.toNat_natCast]
      have rl : (rots md).length = max 1 md.length := by unfold rots; rw [List.length_map, List.length_range]
      refine comp_by (own := ["_law_k"]) (cap := [1]) (J := Itr 0 (max 1 md.length)) (max 1 md.length) (fun i ys σ H' => ∃ v : Option V, σ = [v, some (tx md)] ∧ ys = (((rots md).take i).map toS).map V.str ∧ H' = H2) ⟨none, rfl, rfl, rfl⟩
        (fun i ys σ H' hi ⟨v, _, e, _⟩ => ?_) (by omega) (fun i ys σ H' hi _ => hi) (fun ys σ H' _ => Nat.le_refl _) ?_ ?_
      · rw [e, List.length_map, List.length_map, List.length_take]; omega
      · rintro i ys σ H3 x H4 N hi ⟨v, rfl, rfl, rfl⟩ ⟨rfl, rfl⟩ hN
        have e1 : (0 + (i : Int)).toNat = i := by omega
        have e2 : (rots md)[i]? = some (md.drop i ++ md.take i) := by
          unfold rots
          rw [List.getElem?_map, List.getElem?_range (by omega)]
          rfl
        refine ⟨_, rfl, _, rfl, _, rfl, _, rfl, hw, _, rfl, _, rfl, _, rfl, _, rfl, hw, _, _, rfl, rfl, ?_, hN _ _ _ ⟨_, rfl, ?_, rfl⟩⟩
        · rw [slice_toS, slice_toS, toS_length, toS_length]
          have h1 := cut_length md (some (0 + (i : Int))) none
          have h2 := cut_length md none (some (0 + (i : Int)))
          omega
        · rw [slice_toS, slice_toS, cut_from _ (by omega), cut_to _ (by omega), e1, toS_append, List.take_add_one, e2, List.map_append, List.map_append]
          rfl
      · rintro ys σ H3 l ⟨v, rfl, rfl, rfl⟩ hl
        rw [List.take_of_length_le (by rw [rl]; exact Nat.le_refl _)]
        refine ⟨l, (rots md).map toS, rfl, SqL.of upd_same, (by rw [List.length_map, rl]; omega), fun p zs hp pm hL => ?_⟩
        have hzl : zs.length = max 1 md.length := by rw [pm.length_eq, List.length_map, rl]
        match zs, hzl, hL with
        | [], hzl, _ => simp at hzl; omega
        | m :: r, _, hL =>
          refine ⟨p, _, _, _, rfl, rfl, SqL.of upd_same, at0 _ _, ?_⟩
          exact k m _ ⟨fr, md, hC, hL m r rfl⟩ ((s2.then hl).then hp)
noncomputable abbrev s_lisw : Stmt := top 40
theorem sc_lisw : FnScope ["_law_thing"] ["_law_thing"] (defScope s_lisw) := ⟨rfl, rfl, rfl, by decide +kernel, rfl, by decide +kernel, by decide +kernel⟩
theorem big_signs : ("abcdefABCDEF" : Str) = toS (sg 6) := by decide +kernel
theorem c_lisw (D : Df K mg "_law_is_word" s_lisw) (T : Bt K w mg aB) : Fnc P w K mg base "_law_is_word" ["_law_thing"] 1 (spLWord1 K) := by
  have sc := sc_lisw
  refine D.ok sc (fun _ _ _ _ _ _ us hl => by obtain ⟨_, rfl⟩ := len1 hl; rfl) (fun vs H Q E h => ?_) (fun f cdv A outer s H vs Q E hr h => ?_)
  · obtain ⟨x, rfl, _⟩ := h
    rfl
  · obtain ⟨x, rfl, hx, k⟩ := h
    have l16 := line16
    refine ⟨_, (@pss_one _ _ _ (@ps_ret _ _ _ _ (@pe_and _ _ _ _ _ _ _ (@pe_callB _ _ _ _ _ _ _ _ _ (@call_isK _ (K) rfl) (by rfl) T.isinstance b_isinstance (@pa_cons _ _ _ _ _ (pv 0) (@pa_cons _ _ _ _ _ (@pe_bltn _ _ (.ty "str") _ _ rfl T.str b_str rfl (by decide) (by decide)) pa_nil (by rfl)) (by rfl)) (by decide) (by decide) (by rfl) (by rfl)) (@pe_one _ _ _ _ _ (@pe_cmpR _ _ _ _ _ _ _ _ (@op_eq_nil _ (by exact hr.units)) (@pe_comp _ _ _ _ _ _ _ (["_law_sign_here"]) (["_law_sign_here"]) ([]) _ _ _ _ (@blk_of _ _ _ _ _ _ rfl (by kernel_rfl)) rfl (@pi_str _ _ _ _ (pv 0)) (fun _ _ _ _ => @pg_name _ _ (0) _ (show (["_law_sign_here"] : List Str).Nodup from by decide +kernel) rfl (Or.inl rfl) (by first | exact .inl rfl | exact .inr rfl | assumption)) (fun _ _ _ _ => (@pifs_one _ _ _ (by exact (@pt_cmpR _ _ _ _ _ _ _ _ (@op_notIn_K _ (K) rfl) (pv 0) (@pe_callTy _ _ _ _ _ _ _ _ _ (@call_list_signs _ rfl) (by rfl) T.list b_list (@pa_cons _ _ _ _ _ pe_str pa_nil (by rfl)) (by decide) (by decide) (by rfl) (by rfl)) rfl)))) (fun _ _ _ _ => by (exact (pv 0))) (by intro _ ; rfl)) (@pe_lst _ _ _ _ pa_nil) (nomark _)))))), ?_⟩
    cases hx with
    | oth ty e ns =>
      refine ⟨_, rfl, _, _, _, _, rfl, ty, e, false, rfl, ?_⟩
      rw [wdV_oth ns] at k
      exact iteD rfl (k _ (Same.refl _))
    | str z hz =>
      refine ⟨_, rfl, _, _, _, _, rfl, .str z, kit_str, true, rfl, iteC rfl ?_⟩
      refine ⟨_, rfl, _, rfl, ?_⟩
      refine comp_by (own := ["_law_sign_here"]) (cap := []) (J := Its z) z.cps.size (fun i ys σ H' => ∃ v : Option V, σ = [v] ∧ ys = ((z.cps.toList.take i).filter fun c => !okC 6 c).map (fun c => V.str ⟨#[c]⟩) ∧ Same H H') ⟨none, rfl, rfl, Same.refl _⟩ (fun i ys σ H' hi ⟨v, _, e, _⟩ => ?_) (by have : z.cps.size ≤ 500 := hz; omega) (fun i ys σ H' hi _ => hi) (fun ys σ H' _ => rfl) ?_ ?_
      · rw [e, List.length_map]
        exact Nat.le_trans (List.length_filter_le _ _) (by rw [List.length_take]; omega)
      · rintro i ys σ H1 y H2 N hi ⟨v, rfl, rfl, s1⟩ ⟨rfl, c, hc, rfl⟩ hN
        have hc' : z.cps.toList[i]? = some c := by simpa using hc
        refine ⟨_, rfl, toS (sg 6), by rw [← big_signs], (by rw [toS_length, sg_length (by decide) (by decide)]; omega), fun p hp => ⟨p, _, rfl, .inl (SqL.of upd_same), rfl, flat_signs _, _, rfl, ?_⟩⟩
        rw [if_pos rfl, in_sg (by decide) (by decide)]
        cases ho : okC 6 c with
        | true =>
          refine iteD rfl (hN _ _ _ ⟨_, rfl, ?_, s1.then hp⟩)
          rw [List.take_add_one, hc', List.filter_append]
          simp [ho]
        | false =>
          refine iteC rfl ⟨_, rfl, hN _ _ _ ⟨_, rfl, ?_, s1.then hp⟩⟩
          rw [List.take_add_one, hc', List.filter_append]
          simp [ho]
      · rintro ys σ H1 l ⟨v, rfl, rfl, s1⟩ hl
        rw [List.take_of_length_le (by simp)]
        refine ⟨(by show 0 ≤ sizeLine; decide), fun p hp => ⟨l, p, _, rfl, rfl, by rw [upd_ne (ne_of_none upd_same hp)]; exact upd_same, upd_same, ?_⟩⟩
        rw [fil_isW]
        exact k _ ((s1.then hl).then hp)
end
end Kx
set_option Elab.async false
set_option linter.all false
set_option maxRecDepth 100000
set_option maxHeartbeats 0
namespace Kx
open PySem PySem.Spec PyProof.Rows L2 Wd
section
variable {P : Program} {w : World} {K : PySem.W.Frag} {mg : Str → Option Value} {base : Heap} {aB : Addr}
noncomputable abbrev s_due : Stmt := top 41
theorem sc_due : FnScope ["_law_one", "_law_other", "_law_thing", "_law_by"] ["_law_one", "_law_other", "_law_thing"] (defScope s_due) := ⟨rfl, rfl, rfl, by decide +kernel, rfl, by decide +kernel, by decide +kernel⟩
theorem nm_at (r : List V) : atI ([V.str "alike", V.str "unlike"] : List V) (if decide (2 < (r.length : Int) + 1 + 1) = true then 1 else 0) = some (V.str (if r = [] then "alike" else "unlike")) := by
  cases r with
  | nil => rfl
  | cons x r =>
    rw [decide_eq_true (by rw [List.length_cons]; omega), if_pos rfl, if_neg (by simp)]
    rfl
theorem lay_nm (r : List V) : (PyData.str (if r = [] then "alike" else "unlike" : Str)).canLay0 = true := by
  split <;> decide +kernel
theorem c_due (D : Df K mg "_law_due" s_due) (T : Bt K w mg aB) (F_lback : Fnc P w K mg base "_law_back" ["_law_word"] 1 spBk) (F_lred : Fnc P w K mg base "_law_reduced" ["_law_word"] 2 spRed) (F_ll : Fnc P w K mg base "_law_least" ["_law_word"] 3 spLL) (F_lisw : Fnc P w K mg base "_law_is_word" ["_law_thing"] 1 (spLWord1 K)) : Fnc P w K mg base "_law_due" ["_law_one", "_law_other", "_law_thing"] 4 spTold3 := by
  have sc := sc_due
  refine D.ok sc (fun _ _ _ _ _ _ us hl => by obtain ⟨_, _, _, rfl⟩ := len3 hl; rfl) (fun vs H Q E h => ?_) (fun f cdv A outer s H vs Q E hr h => ?_)
  · obtain ⟨u, v, a, b, x, o, rfl, _⟩ := h
    rfl
  · obtain ⟨u, v, a, b, x, o, rfl, hu, hv, la, lb, hx, k⟩ := h
    have l16 := line16
    refine ⟨_, (@pss_cons _ _ _ _ _ (@ps_if _ _ _ _ _ _ _ _ (@PW.pt _ _ _ (@pw_or _ _ _ _ _ _ _ (@pt_not _ _ _ _ (@pt_truth _ _ _ (@pe_callB _ _ _ _ _ _ _ _ _ (@call_isK _ (K) rfl) (by rfl) T.isinstance b_isinstance (@pa_cons _ _ _ _ _ (pv 2) (@pa_cons _ _ _ _ _ (@pe_bltn _ _ (.ty "tuple") _ _ rfl T.tuple b_tuple rfl (by decide) (by decide)) pa_nil (by rfl)) (by rfl)) (by decide) (by decide) (by rfl) (by rfl)) (fun _ => rfl))) (@pw_or _ _ _ _ _ _ _ (@pt_cmpR _ _ _ _ _ _ _ _ op_lt (@pe_callB _ _ _ _ _ _ _ _ _ call_len_seq (by rfl) T.len PySem.boot_len (@pa_cons _ _ _ _ _ (pv 2) pa_nil (by rfl)) (by decide) (by decide) (by rfl) (by rfl)) pe_int (nomark _)) (@pw_or1 _ _ _ _ (@pt_cmpR _ _ _ _ _ _ _ _ (@op_ne_dat _ (by exact hr.units)) (@pe_ix _ _ _ _ _ _ _ ix_tup (pv 2) pe_int (fun _ _ => rfl)) (@pe_ix _ _ _ _ _ _ _ ix_list (@pe_lst _ _ _ _ (@pa_cons _ _ _ _ _ pe_str (@pa_cons _ _ _ _ _ pe_str pa_nil (by rfl)) (by rfl))) (@pe_callTy _ _ _ _ _ _ _ _ _ call_int1 (by rfl) T.int b_int (@pa_cons _ _ _ _ _ (@pe_cmpR _ _ _ _ _ _ _ _ op_gt (@pe_callB _ _ _ _ _ _ _ _ _ call_len_seq (by rfl) T.len PySem.boot_len (@pa_cons _ _ _ _ _ (pv 2) pa_nil (by rfl)) (by decide) (by decide) (by rfl) (by rfl)) pe_int (nomark _)) pa_nil (by rfl)) (by decide) (by decide) (by rfl) (by rfl)) (fun _ _ => rfl)) (nomark _)))))) (@pss_one _ _ _ (@ps_ret _ _ _ _ (@pe_tup _ _ _ _ _ (@pa_cons _ _ _ _ _ pe_str (@pa_cons _ _ _ _ _ pe_int pa_nil (by rfl)) (by rfl))))) pss_nil) (@pss_cons _ _ _ _ _ (@ps_if _ _ _ _ _ _ _ _ (@PW.pt _ _ _ (@pw_or _ _ _ _ _ _ _ (@pt_cmpR _ _ _ _ _ _ _ _ op_gt (@pe_callB _ _ _ _ _ _ _ _ _ call_len_seq (by rfl) T.len PySem.boot_len (@pa_cons _ _ _ _ _ (pv 2) pa_nil (by rfl)) (by decide) (by decide) (by rfl) (by rfl)) pe_int (nomark _)) (@pw_or1 _ _ _ _ (@pt_cmpR _ _ _ _ _ _ _ _ (@op_ne_nil _ (by exact hr.units)) (@pe_comp _ _ _ _ _ _ _ (["_law_part"]) (["_law_part"]) ([]) _ _ _ _ (@blk_of _ _ _ _ _ _ rfl (by kernel_rfl)) rfl (@pi_tup _ _ _ _ (@pe_slice _ _ _ _ _ _ _ _ _ _ sl_tup (pv 2) (@po_some _ _ _ pe_int) po_none)) (fun _ _ _ _ => @pg_name _ _ (0) _ (show (["_law_part"] : List Str).Nodup from by decide +kernel) rfl (Or.inl rfl) (by first | exact .inl rfl | exact .inr rfl | assumption)) (fun _ _ _ _ => (@pifs_one _ _ _ (by exact (@pt_not _ _ _ _ (@pt_bl _ _ _ (@pe_fn _ _ _ _ _ _ _ _ _ _ _ F_lisw hr (by decide) rfl (@pa_cons _ _ _ _ _ (pv 0) pa_nil (by rfl)) (by decide) (by rfl) (by rfl)) (fun _ => rfl)))))) (fun _ _ _ _ => by (exact (pv 0))) (by intro _ ; rfl)) (@pe_lst _ _ _ _ pa_nil) (nomark _))))) (@pss_one _ _ _ (@ps_ret _ _ _ _ (@pe_tup _ _ _ _ _ (@pa_cons _ _ _ _ _ pe_str (@pa_cons _ _ _ _ _ pe_int pa_nil (by rfl)) (by rfl))))) pss_nil) (@pss_cons _ _ _ _ _ (@ps_if _ _ _ _ _ _ _ _ (@pt_cmpR _ _ _ _ _ _ _ _ op_eq (@pe_callB _ _ _ _ _ _ _ _ _ call_len_seq (by rfl) T.len PySem.boot_len (@pa_cons _ _ _ _ _ (pv 2) pa_nil (by rfl)) (by decide) (by decide) (by rfl) (by rfl)) pe_int (nomark _)) (@pss_cons _ _ _ _ _ (@ps_set _ _ (3) _ _ _ _ sc.nd rfl (Or.inl rfl) (@pe_ix _ _ _ _ _ _ _ ix_tup (pv 2) pe_int (fun _ _ => rfl)) (by rfl) (by first | exact .inl rfl | exact .inr rfl | assumption)) (@pss_one _ _ _ (@ps_ret _ _ _ _ (@pe_ifExp _ _ _ _ _ _ _ _ (@pt_cmpR _ _ _ _ _ _ _ _ op_eq (@pe_fn _ _ _ _ _ _ _ _ _ _ _ F_lred hr (by decide) rfl (@pa_cons _ _ _ _ _ (@pe_op _ _ _ _ _ _ _ _ op_add_str (@pe_op _ _ _ _ _ _ _ _ op_add_str (pv 3) (pv 0)) (@pe_fn _ _ _ _ _ _ _ _ _ _ _ F_lback hr (by decide) rfl (@pa_cons _ _ _ _ _ (pv 3) pa_nil (by rfl)) (by decide) (by rfl) (by rfl))) pa_nil (by rfl)) (by decide) (by rfl) (by rfl)) (@pe_fn _ _ _ _ _ _ _ _ _ _ _ F_lred hr (by decide) rfl (@pa_cons _ _ _ _ _ (pv 1) pa_nil (by rfl)) (by decide) (by rfl) (by rfl)) (nomark _)) pe_bl (@pe_tup _ _ _ _ _ (@pa_cons _ _ _ _ _ pe_str (@pa_cons _ _ _ _ _ pe_int pa_nil (by rfl)) (by rfl))))))) pss_nil) (@pss_cons _ _ _ _ _ (@ps_if _ _ _ _ _ _ _ _ (@pt_cmpR _ _ _ _ _ _ _ _ op_ne (@pe_ix _ _ _ _ _ _ _ ix_tup (pv 2) pe_int (fun _ _ => rfl)) (@pe_fn _ _ _ _ _ _ _ _ _ _ _ F_ll hr (by decide) rfl (@pa_cons _ _ _ _ _ (pv 0) pa_nil (by rfl)) (by decide) (by rfl) (by rfl)) (nomark _)) (@pss_one _ _ _ (@ps_ret _ _ _ _ (@pe_tup _ _ _ _ _ (@pa_cons _ _ _ _ _ pe_str (@pa_cons _ _ _ _ _ pe_int pa_nil (by rfl)) (by rfl))))) pss_nil) (@pss_cons _ _ _ _ _ (@ps_if _ _ _ _ _ _ _ _ (@pt_cmpR _ _ _ _ _ _ _ _ op_ne (@pe_ix _ _ _ _ _ _ _ ix_tup (pv 2) pe_int (fun _ _ => rfl)) (@pe_fn _ _ _ _ _ _ _ _ _ _ _ F_ll hr (by decide) rfl (@pa_cons _ _ _ _ _ (pv 1) pa_nil (by rfl)) (by decide) (by rfl) (by rfl)) (nomark _)) (@pss_one _ _ _ (@ps_ret _ _ _ _ (@pe_tup _ _ _ _ _ (@pa_cons _ _ _ _ _ pe_str (@pa_cons _ _ _ _ _ pe_int pa_nil (by rfl)) (by rfl))))) pss_nil) (@pss_one _ _ _ (@ps_ret _ _ _ _ (@pe_ifExp _ _ _ _ _ _ _ _ (@pt_cmpR _ _ _ _ _ _ _ _ op_ne (@pe_ix _ _ _ _ _ _ _ ix_tup (pv 2) pe_int (fun _ _ => rfl)) (@pe_ix _ _ _ _ _ _ _ ix_tup (pv 2) pe_int (fun _ _ => rfl)) (nomark _)) pe_bl (@pe_tup _ _ _ _ _ (@pa_cons _ _ _ _ _ pe_str (@pa_cons _ _ _ _ _ pe_int pa_nil (by rfl)) (by rfl))))))))))), ?_⟩
    have shp : out3 u v a b o = some (("shape" : Str), 0) → ∀ H1, Same H H1 → ∀ p, H1 p = none → Q (.ref p) (upd H1 p (.tup [.str "shape", .int 0])) := fun eo H1 s1 p hp => k _ _ (by rw [eo]; exact .tup upd_same (.cons (.str _) (.cons (.int _) .nil))) (s1.then hp) fun q => by rw [eo] at q; cases q
    cases o with
    | none =>
      obtain ⟨n, ty, e⟩ := hx.no (K := K)
      exact ⟨_, rfl, _, _, _, _, rfl, ty, e, _, rfl, nkF (orkT (ifsT ⟨(by show 2 ≤ sizeLine; decide), fun p hp => shp out3_no _ (Same.refl _) p hp⟩))⟩
    | some xs =>
      cases hx with
      | @tup t _ ht p hl =>
      refine ⟨_, rfl, _, _, _, _, rfl, .tup ht, kit_tupT, _, rfl, nkT (orkF ⟨_, rfl, t, _, rfl, .inr (SqT.of ht), _, _, rfl, rfl, _, rfl, ?_⟩)⟩
      by_cases h2 : xs.length < 2
      · have eo : out3 u v a b (some xs) = some (("shape" : Str), 0) := by
          cases xs with
          | nil => exact out3_nil
          | cons x r =>
            cases r with
            | nil => exact out3_one
            | cons y r => simp at h2; omega
        exact iteC (decide_eq_true (by omega)) (ifsT ⟨(by show 2 ≤ sizeLine; decide), fun p hp => shp eo _ (Same.refl _) p hp⟩)
      refine iteD (decide_eq_false (by omega)) ?_
      obtain ⟨x0, x1, r, rfl⟩ : ∃ x0 x1 r, xs = x0 :: x1 :: r := by
        cases xs with
        | nil => simp at h2
        | cons x r =>
          cases r with
          | nil => simp at h2
          | cons y r => exact ⟨_, _, _, rfl⟩
      obtain ⟨d0, hd0, l0, dp0, q0⟩ := (p x0 (by simp)).dt
      have h0 : atI (x0 :: x1 :: r) 0 = some x0 := at0 _ _
      have hln : (x0 :: x1 :: r).length = r.length + 2 := rfl
      refine ⟨_, rfl, t, _, _, _, rfl, rfl, SqT.of ht, h0, (by show 2 ≤ sizeLine; decide), fun q hq => ?_⟩
      have sq : Same H (upd H q (.lst [.str "alike", .str "unlike"])) := Same.new hq
      have fq : (upd H q (.lst [.str "alike", .str "unlike"])) q = some (.lst [.str "alike", .str "unlike"]) := upd_same
      generalize upd H q (.lst [.str "alike", .str "unlike"]) = H1 at sq fq ⊢
      have ht1 := sq _ _ ht
      refine ⟨_, rfl, t, _, rfl, .inr (SqT.of ht1), _, _, rfl, rfl, .inr ⟨_, rfl, q, _, _, _, rfl, rfl, SqL.of fq, nm_at r, d0, _, hd0.same sq, .str _, l0, lay_nm r, dp0, _, rfl, ?_⟩⟩
      rw [q0]
      have dnm : (if r = [] then "alike" else "unlike" : Str) = "alike" ∧ r = [] ∨ (if r = [] then "alike" else "unlike" : Str) = "unlike" ∧ r ≠ [] := by
        by_cases e : r = []
        · exact .inl ⟨if_pos e, e⟩
        · exact .inr ⟨if_neg e, e⟩
      by_cases e0 : ¬ x0 = .str (if r = [] then "alike" else "unlike" : Str)
      · rw [decide_eq_false e0]
        refine ifsT ⟨(by show 2 ≤ sizeLine; decide), fun p hp => shp ?_ _ sq p hp⟩
        rcases dnm with ⟨e1, rfl⟩ | ⟨e1, e2⟩
        · exact out3_two fun h => e0 (h.1.trans (by rw [e1]))
        · cases r with
          | nil => exact absurd rfl e2
          | cons x2 r =>
            cases r with
            | nil => exact out3_three fun h => e0 (h.1.trans (by rw [e1]))
            | cons x3 r => exact out3_more
      have e0 := Classical.not_not.mp e0
      rw [decide_eq_true e0]
      refine ifsF ⟨_, rfl, t, _, rfl, .inr (SqT.of ht1), _, _, rfl, rfl, _, rfl, ?_⟩
      by_cases h4 : 3 < r.length + 2
      · refine iteC (decide_eq_true (by omega)) (ifsT ⟨(by show 2 ≤ sizeLine; decide), fun p hp => shp ?_ _ sq p hp⟩)
        match r, h4 with
        | [], h => simp at h
        | [x2], h => simp at h
        | x2 :: x3 :: r, _ => exact out3_more
      refine iteD (decide_eq_false (by omega)) ?_
      refine ⟨_, rfl, _, rfl, t, _, rfl, SqT.of ht1, (by rw [HT.sIx_none]; intro h; have := h.1; have e := HT.sIx_nat (x0 :: x1 :: r).length 0 1; rw [show ((1 : Nat) : Int) = 1 from rfl, this] at e; simp at e), fun t2 h2' => ?_⟩
      rw [cut1]
      have s2 := sq.then (o := .tup (x1 :: r)) h2'
      have ft2 : (upd H1 t2 (.tup (x1 :: r))) t2 = some (.tup (x1 :: r)) := upd_same
      generalize upd H1 t2 (.tup (x1 :: r)) = H2 at s2 ft2 ⊢
      have pE : ∀ y ∈ x1 :: r, E3 H y := fun y hy => p y (List.mem_cons_of_mem _ hy)
      refine ⟨t2, rfl, ⟨_, SqT.of ft2⟩, ?_⟩
      refine comp_by (own := ["_law_part"]) (cap := []) (J := Itt K t2) (x1 :: r).length (fun i ys σ H' => ∃ v : Option V, σ = [v] ∧ ys = ((x1 :: r).take i).filter (fun y => !wdV 6 y) ∧ Same H2 H') ⟨none, rfl, rfl, Same.refl _⟩ (fun i ys σ H' hi ⟨v, _, e, _⟩ => ?_) (by rw [List.length_cons]; omega) (fun i ys σ H' hi ⟨_, _, _, sh⟩ => ⟨_, _, SqT.of (sh _ _ ft2), List.getElem?_eq_getElem hi⟩) (fun ys σ H' ⟨_, _, _, sh⟩ => ⟨_, SqT.of (sh _ _ ft2), Nat.le_refl _⟩) ?_ ?_
      · rw [e]
        exact Nat.le_trans (List.length_filter_le _ _) (by rw [List.length_take]; omega)
      · rintro i ys σ H3 y H4 N hi ⟨v, rfl, rfl, s3⟩ ⟨rfl, hy⟩ hN
        have hy := hy _ (SqT.of (s3 _ _ ft2))
        refine ⟨_, rfl, y, rfl, (((pE y (List.mem_of_getElem? hy)).same s2).same s3).th, fun H5 s5 => ⟨_, rfl, ?_⟩⟩
        cases ho : wdV 6 y with
        | true =>
          refine nkT (iteD rfl (hN _ _ _ ⟨_, rfl, ?_, s3.trans s5⟩))
          rw [List.take_add_one, hy, List.filter_append]
          simp [ho]
        | false =>
          refine nkF (iteC rfl ⟨_, rfl, hN _ _ _ ⟨_, rfl, ?_, s3.trans s5⟩⟩)
          rw [List.take_add_one, hy, List.filter_append]
          simp [ho]
      · rintro ys σ H3 l ⟨_, rfl, rfl, s3⟩ hl
        rw [List.take_of_length_le (Nat.le_refl _)]
        refine ⟨(by show 0 ≤ sizeLine; decide), fun p0 hp0 => ⟨l, p0, _, rfl, rfl, by rw [upd_ne (ne_of_none upd_same hp0)]; exact upd_same, upd_same, _, rfl, ?_⟩⟩
        have s4 := ((s2.trans s3).then (o := .lst ((x1 :: r).filter fun y => !wdV 6 y)) hl).then (o := .lst []) hp0
        generalize upd (upd H3 l _) p0 _ = H4 at s4 ⊢
        have ht4 := s4 _ _ ht
        by_cases hw : ¬ ((x1 :: r).filter fun y => !wdV 6 y) = []
        · have nn : ¬ ∀ y ∈ x1 :: r, wdV 6 y = true := fun g => hw (List.filter_eq_nil_iff.mpr fun y hy => by rw [g y hy]; decide)
          have ee : (!((x1 :: r).filter fun y => !wdV 6 y).isEmpty) = true := by rw [Bool.not_eq_true', Bool.eq_false_iff]; intro g; exact hw (List.isEmpty_iff.mp g)
          rw [ee]
          refine ifsT ⟨(by show 2 ≤ sizeLine; decide), fun p hp => shp ?_ _ s4 p hp⟩
          cases r with
          | nil => exact out3_two fun h => nn fun y hy => (by rw [List.mem_singleton.mp hy]; exact h.2)
          | cons x2 r =>
            cases r with
            | nil =>
              refine out3_three fun h => nn fun y hy => ?_
              rcases List.mem_cons.mp hy with rfl | hy
              · exact h.2.1
              · rw [List.mem_singleton.mp hy]
                exact h.2.2
            | cons x3 r => exact absurd h4 (by simp)
        have hw := Classical.not_not.mp hw
        rw [hw]
        have all : ∀ y ∈ x1 :: r, wdV 6 y = true := fun y hy => by
          have := List.filter_eq_nil_iff.mp hw y hy
          simpa using this
        refine ifsF ?_
        refine ⟨_, rfl, t, _, rfl, .inr (SqT.of ht4), rfl, _, rfl, ?_⟩
        have e1 := wd_vW (all x1 (by simp))
        have l1 := wd_len (all x1 (by simp)) (pE x1 (by simp))
        generalize vW x1 = y at e1 l1
        subst e1
        cases r with
        | nil =>
          refine iteC (decide_eq_true rfl) ?_
          rw [if_pos rfl] at e0
          subst e0
          refine ⟨_, rfl, t, _, _, _, rfl, rfl, SqT.of ht4, at1 _ _ _, _, rfl, ?_⟩
          refine ⟨_, rfl, _, _, rfl, rfl, (by rw [toS_length, toS_length]; omega), _, rfl, y, rfl, by omega, fun H5 s5 => ?_⟩
          refine ⟨_, _, rfl, rfl, (by rw [toS_append, toS_length, toS_length, List.length_append, bk_length]; omega), ?_⟩
          rw [toS_append, toS_append]
          refine ⟨y ++ u ++ bk y, rfl, (by rw [List.length_append, List.length_append, bk_length]; omega), fun H6 s6 => ?_⟩
          refine ⟨_, rfl, v, rfl, by omega, fun H7 s7 => ?_⟩
          have s47 := s4.trans (s5.trans (s6.trans s7))
          refine ⟨rfl, _, rfl, ?_⟩
          by_cases e : red (y ++ u ++ bk y) = red v
          · have eo : out3 u v a b (some [.str "alike", tx y]) = none := by rw [out3_al, if_pos e]
            refine iteC (by rw [e]; simp) (k (.bl true) _ (by rw [eo]; exact .bl true) s47 fun _ => rfl)
          · have eo : out3 u v a b (some [.str "alike", tx y]) = some (("by" : Str), 0) := by rw [out3_al, if_neg e]
            refine iteD (by rw [dec_tx, decide_eq_false e]) ⟨(by show 2 ≤ sizeLine; decide), fun p hp => ?_⟩
            exact k _ _ (by rw [eo]; exact .tup upd_same (.cons (.str _) (.cons (.int _) .nil))) (s47.then hp) fun q => by rw [eo] at q; cases q
        | cons x2 r =>
          cases r with
          | cons x3 r => exact absurd h4 (by simp)
          | nil =>
            refine iteD (decide_eq_false fun e => by cases e) ?_
            rw [if_neg (by simp)] at e0
            subst e0
            have e2 := wd_vW (all x2 (by simp))
            generalize vW x2 = z at e2
            subst e2
            refine ⟨_, rfl, t, _, _, _, rfl, rfl, SqT.of ht4, at1 _ _ _, ?_⟩
            refine ⟨_, rfl, u, rfl, by omega, fun a' H5 la' s5 => ?_⟩
            obtain rfl := la.one la'
            refine ⟨rfl, _, rfl, ?_⟩
            have trn : ∀ {H' : Hp} (j : Nat) (eo : out3 u v a b (some [.str "unlike", tx y, tx z]) = some (("turn" : Str), j)), Same H H' → ∀ p, H' p = none → Q (.ref p) (upd H' p (.tup [.str "turn", .int (j : Nat)])) := fun j eo s p hp => k _ _ (by rw [eo]; exact .tup upd_same (.cons (.str _) (.cons (.int _) .nil))) (s.then hp) fun q => by rw [eo] at q; cases q
            rw [out3_un] at trn k
            by_cases e1 : ¬ tx y = .str a
            · rw [decide_eq_false e1]
              exact ifsT ⟨(by show 2 ≤ sizeLine; decide), fun p hp => trn 0 (if_pos e1) (s4.trans s5) p hp⟩
            have e1 := Classical.not_not.mp e1
            rw [decide_eq_true e1]
            refine ifsF ?_
            refine ⟨_, rfl, t, _, _, _, rfl, rfl, SqT.of (s5 _ _ ht4), at2 _ _ _ _, ?_⟩
            refine ⟨_, rfl, v, rfl, by omega, fun b' H6 lb' s6 => ?_⟩
            obtain rfl := lb.one lb'
            refine ⟨rfl, _, rfl, ?_⟩
            rw [if_neg (fun h => h e1)] at trn k
            have s46 := s4.trans (s5.trans s6)
            by_cases e2 : ¬ tx z = .str b
            · rw [decide_eq_false e2]
              exact ifsT ⟨(by show 2 ≤ sizeLine; decide), fun p hp => trn 1 (if_pos e2) s46 p hp⟩
            have e2 := Classical.not_not.mp e2
            rw [decide_eq_true e2]
            refine ifsF ?_
            rw [if_neg (fun h => h e2)] at trn k
            have ht6 := s6 _ _ (s5 _ _ ht4)
            refine ⟨_, rfl, t, _, _, _, rfl, rfl, SqT.of ht6, at1 _ _ _, _, rfl, t, _, _, _, rfl, rfl, SqT.of ht6, at2 _ _ _ _, rfl, _, rfl, ?_⟩
            by_cases e3 : tx y = tx z
            · rw [decide_eq_true e3]
              exact ifkF ⟨(by show 2 ≤ sizeLine; decide), fun p hp => trn 2 (if_pos e3) s46 p hp⟩
            · rw [decide_eq_false e3]
              rw [if_neg e3] at k
              exact ifkT (k (.bl true) _ (.bl true) s46 fun _ => rfl)
end
end Kx
set_option Elab.async false
set_option linter.all false
set_option maxRecDepth 100000
set_option maxHeartbeats 0
namespace Kx
open PySem PySem.Spec PyProof.Rows L2 Wd
section
variable {P : Program} {w : World} {K : PySem.W.Frag} {mg : Str → Option Value} {base : Heap} {aB : Addr}
noncomputable abbrev s_told : Stmt := top 42
theorem sc_told : FnScope ["_law_one", "_law_other", "_law_thing", "_law_found", "e", "_law_strange"] ["_law_one", "_law_other", "_law_thing"] (defScope s_told) := ⟨rfl, rfl, rfl, by decide +kernel, rfl, by decide +kernel, by decide +kernel⟩
structure TC (K : PySem.W.Frag) (mg : Str → Option Value) (CT CR : Addr) (bmT bmR : List Value) (c : Nat → Addr) : Prop where
  nT : mg "NoPaper" = some (.ref CT)
  nR : mg "RingError" = some (.ref CR)
  nV : mg "ValueError" = none
  n0 : mg "NoBand" = some (.ref (c 0))
  n1 : mg "NoRow" = some (.ref (c 1))
  n2 : mg "NoSlide" = some (.ref (c 2))
  n3 : mg "NoStep" = some (.ref (c 3))
  n4 : mg "NoSurface" = some (.ref (c 4))
  n5 : mg "NoText" = some (.ref (c 5))
  n6 : mg "NoThin" = some (.ref (c 6))
  n7 : mg "NoWay" = some (.ref (c 7))
  xT : XCl K CT bmT
  up : (Value.ref CT :: bmT).contains (.ref CR) = true
  ka : PySem.W.kitAny K (.ref CT) [.ref (c 0), .ref (c 1), .ref (c 2), .ref (c 3), .ref (c 4), .ref (c 5), .ref (c 6), .ref (c 7)] = some false
  kt : PySem.W.kitOne K (.ref CT) (.ref CT) = some true
  kv : PySem.W.kitOne K (.ref CT) (.type "ValueError") = some true
  ca : XCa K CT
  xw : PySem.W.findIn K (.ref CT) "word" = some none
  xa : PySem.W.findIn K (.ref CT) "at" = some none
theorem vals_ref {a : Addr} {vs : List V} {ts : List Value} (h : ∀ us, Vals vs us → us = ts) : ∀ us, Vals (.ref a :: vs) us → us = .ref a :: ts := by
  intro us r
  cases r with
  | cons r1 r2 =>
    obtain rfl := h _ r2
    cases r1
    rfl
theorem c_told {CT CR : Addr} {bmT bmR : List Value} {c : Nat → Addr} (D : Df K mg "_law_told" s_told) (T : Bt K w mg aB) (C : TC K mg CT CR bmT bmR c) (xR : XCl K CR bmR) (F_lets : FncX P w K mg base "lets_turning" ["one", "other", "thing"] 5 (spLets3 CT)) : Fnc P w K mg base "_law_told" ["_law_one", "_law_other", "_law_thing"] 6 spTold3 := by
  have sc := sc_told
  have cNoPaper := C.nT
  have cRingError := C.nR
  have TV := C.nV
  have cNoBand := C.n0
  have cNoRow := C.n1
  have cNoSlide := C.n2
  have cNoStep := C.n3
  have cNoSurface := C.n4
  have cNoText := C.n5
  have cNoThin := C.n6
  have cNoWay := C.n7
  refine D.ok sc (fun _ _ _ _ _ _ us hl => by obtain ⟨_, _, _, rfl⟩ := len3 hl; rfl) (fun vs H Q E h => ?_) (fun f cdv A outer s H vs Q E hr h => ?_)
  · obtain ⟨u, v, a, b, x, o, rfl, _⟩ := h
    rfl
  · obtain ⟨u, v, a0, b0, x, o, rfl, hu, hv, la, lb, hx, k⟩ := h
    have l16 := line16
    have hu' := hu_of hr
    refine ⟨_, (@pss_cons _ _ _ _ _ (@ps_set _ _ (3) _ _ _ _ sc.nd rfl (Or.inl rfl) pe_non (by rfl) (by first | exact .inl rfl | exact .inr rfl | assumption)) (@pss_cons _ _ _ _ _ (@ps_try _ _ _ _ (4) _ _ _ _ _ _ _ _ _ rfl rfl sc.nd rfl rfl rfl cRingError xR (fun _ => (@pse_set _ _ _ _ _ _ _ (3) sc.nd rfl (Or.inl rfl) (@pee_fn _ _ _ _ _ _ _ _ _ _ _ _ F_lets hr (by decide) rfl (@pa_cons _ _ _ _ _ (pv 0) (@pa_cons _ _ _ _ _ (pv 1) (@pa_cons _ _ _ _ _ (pv 2) pa_nil (by rfl)) (by rfl)) (by rfl)) (by decide) (by rfl) (by rfl)) (by rfl) (by first | exact .inl rfl | exact .inr rfl | assumption))) (fun _ => (@pss_cons _ _ _ _ _ (@ps_set _ _ (5) _ _ _ _ sc.nd rfl (Or.inl rfl) (@pe_callB _ _ _ _ _ _ _ _ _ (@call_istK _ (K) rfl) (by rfl) T.isinstance b_isinstance (@pa_cons _ _ _ _ _ (pv 4) (@pa_cons _ _ _ _ _ (@pe_tup _ _ _ _ _ (@pa_c _ _ _ _ _ (@pe_glob _ _ (.ref _) _ _ rfl cNoBand rfl (by decide)) (@pa_c _ _ _ _ _ (@pe_glob _ _ (.ref _) _ _ rfl cNoRow rfl (by decide)) (@pa_c _ _ _ _ _ (@pe_glob _ _ (.ref _) _ _ rfl cNoSlide rfl (by decide)) (@pa_c _ _ _ _ _ (@pe_glob _ _ (.ref _) _ _ rfl cNoStep rfl (by decide)) (@pa_c _ _ _ _ _ (@pe_glob _ _ (.ref _) _ _ rfl cNoSurface rfl (by decide)) (@pa_c _ _ _ _ _ (@pe_glob _ _ (.ref _) _ _ rfl cNoText rfl (by decide)) (@pa_c _ _ _ _ _ (@pe_glob _ _ (.ref _) _ _ rfl cNoThin rfl (by decide)) (@pa_c _ _ _ _ _ (@pe_glob _ _ (.ref _) _ _ rfl cNoWay rfl (by decide)) pa_nil (by rfl)) (by rfl)) (by rfl)) (by rfl)) (by rfl)) (by rfl)) (by rfl)) (by rfl))) pa_nil (by rfl)) (by rfl)) (by decide) (by decide) (by rfl) (by rfl)) (by rfl) (by first | exact .inl rfl | exact .inr rfl | assumption)) (@pss_cons _ _ _ _ _ (@ps_set _ _ (3) _ _ _ _ sc.nd rfl (Or.inl rfl) pe_str (by rfl) (by first | exact .inl rfl | exact .inr rfl | assumption)) (@pss_one _ _ _ (@ps_if _ _ _ _ _ _ _ _ (@PW.pt _ _ _ (@pw_and _ _ _ _ _ _ _ (@pt_bl _ _ _ (@pe_callB _ _ _ _ _ _ _ _ _ (@call_isxK _ (K) rfl) (by rfl) T.isinstance b_isinstance (@pa_cons _ _ _ _ _ (pv 4) (@pa_cons _ _ _ _ _ (@pe_glob _ _ (.ref _) _ _ rfl cNoPaper rfl (by decide)) pa_nil (by rfl)) (by rfl)) (by decide) (by decide) (by rfl) (by rfl)) (fun _ => rfl)) (@pw_and _ _ _ _ _ _ _ (@pt_bl _ _ _ (@pe_callB _ _ _ _ _ _ _ _ _ (@call_isxK _ (K) rfl) (by rfl) T.isinstance b_isinstance (@pa_cons _ _ _ _ _ (pv 4) (@pa_cons _ _ _ _ _ (@pe_bltn _ _ (.ty "ValueError") _ _ rfl TV b_ValueError rfl (by decide) (by decide)) pa_nil (by rfl)) (by rfl)) (by decide) (by decide) (by rfl) (by rfl)) (fun _ => rfl)) (@pw_and1 _ _ _ _ (@pt_not _ _ _ _ (@pt_bl _ _ _ (pv 5) (fun _ => rfl))))))) (@pss_one _ _ _ (@ps_set _ _ (3) _ _ _ _ sc.nd rfl (Or.inl rfl) (@pe_tup _ _ _ _ _ (@pa_cons _ _ _ _ _ (@pe_fxK _ (K) _ _ _ _ rfl (pv 4) rfl) (@pa_cons _ _ _ _ _ (@pe_fxK _ (K) _ _ _ _ rfl (pv 4) rfl) pa_nil (by rfl)) (by rfl))) (by rfl) (by first | exact .inl rfl | exact .inr rfl | assumption))) pss_nil))))) (by decide)) (@pss_one _ _ _ (@ps_ret _ _ _ _ (pv 3))))), ?_⟩
    refine ⟨_, rfl, _, rfl, _, rfl, u, v, a0, b0, x, o, rfl, (by omega), (by omega), la, lb, hx, fun e H' s' => ⟨_, rfl, k (.bl true) H' (by rw [e]; exact .bl true) s' fun _ => rfl⟩, fun z j e b H' xp s' => ?_⟩
    obtain ⟨dx, fa, fd⟩ := xp
    refine ⟨b, CT, some dx, bmT, rfl, fa, C.xT, C.up, ?_⟩
    refine ⟨_, rfl, (by show 8 ≤ sizeLine; decide), fun q hq => ?_⟩
    have fa := Same.new (o := .tup [.ref (c 0), .ref (c 1), .ref (c 2), .ref (c 3), .ref (c 4), .ref (c 5), .ref (c 6), .ref (c 7)]) hq _ _ fa
    have fd := Same.new (o := .tup [.ref (c 0), .ref (c 1), .ref (c 2), .ref (c 3), .ref (c 4), .ref (c 5), .ref (c 6), .ref (c 7)]) hq _ _ fd
    have s2 := s'.then (o := .tup [.ref (c 0), .ref (c 1), .ref (c 2), .ref (c 3), .ref (c 4), .ref (c 5), .ref (c 6), .ref (c 7)]) hq
    refine ⟨b, CT, false, dx, _, q, _, _, false, rfl, fa, fd, C.ca, upd_same, vals_ref (vals_ref (vals_ref (vals_ref (vals_ref (vals_ref (vals_ref (vals_ref fun us h => by cases h; rfl))))))), C.ka, ?_⟩
    generalize upd H' q _ = H2 at fa fd s2 ⊢
    refine ⟨_, rfl, b, CT, false, dx, _, _, _, true, rfl, fa, fd, C.ca, (fun u r => r), C.kt, _, rfl, andkT ?_⟩
    refine ⟨_, rfl, b, CT, false, dx, _, _, _, true, rfl, fa, fd, C.ca, (fun u r => r), C.kv, _, rfl, andkT ?_⟩
    refine ⟨_, rfl, _, rfl, ifsT ?_⟩
    refine ⟨_, rfl, b, CT, false, dx, _, _, rfl, fa, fd, C.ca.1, C.xw, rfl, _, rfl, b, CT, false, dx, _, _, rfl, fa, fd, C.ca.1, C.xa, rfl, (by show 2 ≤ sizeLine; decide), fun p hp => ⟨_, rfl, k (.ref p) _ ?_ (s2.then hp) fun q => by rw [e] at q; cases q⟩⟩
    rw [e]
    exact .tup upd_same (.cons (.str _) (.cons (.int _) .nil))
end
end Kx
set_option Elab.async false
set_option linter.all false
set_option maxRecDepth 100000
set_option maxHeartbeats 0
namespace Kx
open PySem PySem.Spec PyProof.Rows L2 Wd
section
variable {P : Program} {w : World} {K : PySem.W.Frag} {mg : Str → Option Value} {base : Heap} {aB : Addr}
noncomputable abbrev s_bent : Stmt := top 43
theorem sc_bent : FnScope ["_law_feed_here", "_law_thing", "_law_odd", "_law_at", "_law_some_here"] ["_law_feed_here", "_law_thing"] (defScope s_bent) := ⟨rfl, rfl, rfl, by decide +kernel, rfl, by decide +kernel, by decide +kernel⟩
theorem E3s.cut {H : Hp} {xs : List V} {lo hi : Option Int} (h : ∀ y ∈ xs, E3 H y) : ∀ y ∈ cutV xs lo hi, E3 H y := fun y hy => h y (cutV_mem hy)
theorem E3s.app {H : Hp} {xs ys : List V} (h : ∀ y ∈ xs, E3 H y) (g : ∀ y ∈ ys, E3 H y) : ∀ y ∈ xs ++ ys, E3 H y := fun y hy => (List.mem_append.mp hy).elim (h y) (g y)
theorem E3s.same {H H' : Hp} {xs : List V} (s : Same H H') (h : ∀ y ∈ xs, E3 H y) : ∀ y ∈ xs, E3 H' y := fun y hy => (h y hy).same s
theorem E3s.sb {H H' : Hp} {f : Addr} {xs : List V} (F : Fd H f) (s : SameB f H H') (h : ∀ y ∈ xs, E3 H y) : ∀ y ∈ xs, E3 H' y := fun y hy => (h y hy).sb F s
theorem E3s.one {H : Hp} {x : V} (h : E3 H x) : ∀ y ∈ [x], E3 H y := fun y hy => by rw [List.mem_singleton.mp hy]; exact h
noncomputable def oddL (a b : Addr) : List V := [.non, .bl true, .int 0, .str "", .str "a", .str "g", .str "alike", .str "unlike", .ref a, .ref b, .str "abAB"]
theorem odd_ok {H : Hp} {a b : Addr} (ha : H a = some (.tup [.str "a"])) (hb : H b = some (.lst [])) : ∀ y ∈ oddL a b, E3 H y := by
  intro y hy
  unfold oddL at hy
  simp only [List.mem_cons, List.not_mem_nil, or_false] at hy
  rcases hy with rfl | rfl | rfl | rfl | rfl | rfl | rfl | rfl | rfl | rfl | rfl
  · exact .non
  · exact .bl _
  · exact .int _
  · exact .str _ ⟨by decide +kernel, by decide +kernel⟩
  · exact .str _ ⟨by decide +kernel, by decide +kernel⟩
  · exact .str _ ⟨by decide +kernel, by decide +kernel⟩
  · exact .str _ ⟨by decide +kernel, by decide +kernel⟩
  · exact .str _ ⟨by decide +kernel, by decide +kernel⟩
  · exact .tupA ha
  · exact .nilL hb
  · exact .str _ ⟨by decide +kernel, by decide +kernel⟩
theorem c_bent (D : Df K mg "_law_bent" s_bent) (T : Bt K w mg aB) (F_draw : Fnc P w K mg base "_law_draw" ["_law_feed_here", "_law_many"] 1 spDraw) : Fnc P w K mg base "_law_bent" ["_law_feed_here", "_law_thing"] 2 spBent3 := by
  have sc := sc_bent
  refine D.ok sc (fun _ _ _ _ _ _ us hl => by obtain ⟨_, _, rfl⟩ := len2 hl; rfl) (fun vs H Q E h => ?_) (fun f cdv A outer s H vs Q E hr h => ?_)
  · obtain ⟨d, t, xs, rfl, _⟩ := h
    rfl
  · obtain ⟨d, t, xs, rfl, F, ht, px, hl, k⟩ := h
    have l16 := line16
    refine ⟨_, (@pss_cons _ _ _ _ _ (@ps_set _ _ (2) _ _ _ _ sc.nd rfl (Or.inl rfl) (@pe_ix _ _ _ _ _ _ _ ix_list (@pe_lst _ _ _ _ (@pa_c _ _ _ _ _ pe_non (@pa_c _ _ _ _ _ pe_bl (@pa_c _ _ _ _ _ pe_int (@pa_c _ _ _ _ _ pe_str (@pa_c _ _ _ _ _ pe_str (@pa_c _ _ _ _ _ pe_str (@pa_c _ _ _ _ _ pe_str (@pa_c _ _ _ _ _ pe_str (@pa_c _ _ _ _ _ (@pe_tup _ _ _ _ _ (@pa_cons _ _ _ _ _ pe_str pa_nil (by rfl))) (@pa_c _ _ _ _ _ (@pe_lst _ _ _ _ pa_nil) (@pa_c _ _ _ _ _ pe_str pa_nil (by rfl)) (by rfl)) (by rfl)) (by rfl)) (by rfl)) (by rfl)) (by rfl)) (by rfl)) (by rfl)) (by rfl)) (by rfl))) (@pe_fn _ _ _ _ _ _ _ _ _ _ _ F_draw hr (by decide) rfl (@pa_cons _ _ _ _ _ (pv 0) (@pa_cons _ _ _ _ _ pe_int pa_nil (by rfl)) (by rfl)) (by decide) (by rfl) (by rfl)) (fun _ _ => rfl)) (by rfl) (by first | exact .inl rfl | exact .inr rfl | assumption)) (@pss_cons _ _ _ _ _ (@ps_set _ _ (3) _ _ _ _ sc.nd rfl (Or.inl rfl) (@pe_fn _ _ _ _ _ _ _ _ _ _ _ F_draw hr (by decide) rfl (@pa_cons _ _ _ _ _ (pv 0) (@pa_cons _ _ _ _ _ (@pe_op _ _ _ _ _ _ _ _ op_add (@pe_callB _ _ _ _ _ _ _ _ _ call_len_seq (by rfl) T.len PySem.boot_len (@pa_cons _ _ _ _ _ (pv 1) pa_nil (by rfl)) (by decide) (by decide) (by rfl) (by rfl)) pe_int) pa_nil (by rfl)) (by rfl)) (by decide) (by rfl) (by rfl)) (by rfl) (by first | exact .inl rfl | exact .inr rfl | assumption)) (@pss_cons _ _ _ _ _ (@ps_set _ _ (4) _ _ _ _ sc.nd rfl (Or.inl rfl) (@pe_lst _ _ _ _ (@pa_cons _ _ _ _ _ (@pe_op _ _ _ _ _ _ _ _ op_catU (@pe_op _ _ _ _ _ _ _ _ op_catU (@pe_slice _ _ _ _ _ _ _ _ _ _ sl_tupU (pv 1) po_none (@po_some _ _ _ (pv 3))) (@pe_tup _ _ _ _ _ (@pa_cons _ _ _ _ _ (pv 2) pa_nil (by rfl)))) (@pe_slice _ _ _ _ _ _ _ _ _ _ sl_tupU (pv 1) (@po_some _ _ _ (@pe_op _ _ _ _ _ _ _ _ op_add (pv 3) pe_int)) po_none)) (@pa_cons _ _ _ _ _ (@pe_op _ _ _ _ _ _ _ _ op_catU (@pe_op _ _ _ _ _ _ _ _ op_catU (@pe_slice _ _ _ _ _ _ _ _ _ _ sl_tupU (pv 1) po_none (@po_some _ _ _ (pv 3))) (@pe_tup _ _ _ _ _ (@pa_cons _ _ _ _ _ (pv 2) pa_nil (by rfl)))) (@pe_slice _ _ _ _ _ _ _ _ _ _ sl_tupU (pv 1) (@po_some _ _ _ (pv 3)) po_none)) (@pa_cons _ _ _ _ _ (@pe_op _ _ _ _ _ _ _ _ op_catU (@pe_slice _ _ _ _ _ _ _ _ _ _ sl_tupU (pv 1) po_none (@po_some _ _ _ (pv 3))) (@pe_slice _ _ _ _ _ _ _ _ _ _ sl_tupU (pv 1) (@po_some _ _ _ (@pe_op _ _ _ _ _ _ _ _ op_add (pv 3) pe_int)) po_none)) pa_nil (by rfl)) (by rfl)) (by rfl))) (by rfl) (by first | exact .inl rfl | exact .inr rfl | assumption)) (@pss_one _ _ _ (@ps_ret _ _ _ _ (@pe_ix _ _ _ _ _ _ _ ix_list (@pe_op _ _ _ _ _ _ _ _ op_cat (pv 4) (@pe_lst _ _ _ _ (@pa_cons _ _ _ _ _ (@pe_callTy _ _ _ _ _ _ _ _ _ call_list_of (by rfl) T.list b_list (@pa_cons _ _ _ _ _ (pv 1) pa_nil (by rfl)) (by decide) (by decide) (by rfl) (by rfl)) (@pa_cons _ _ _ _ _ (@pe_op _ _ _ _ _ _ _ _ op_catU (@pe_slice _ _ _ _ _ _ _ _ _ _ sl_tupU (pv 1) po_none (@po_some _ _ _ pe_int)) (@pe_revT _ _ _ _ _ _ _ (@pe_slice _ _ _ _ _ _ _ _ _ _ sl_tupU (pv 1) (@po_some _ _ _ pe_int) po_none) (@pe_un _ _ _ _ _ _ un_neg pe_int))) pa_nil (by rfl)) (by rfl)))) (@pe_fn _ _ _ _ _ _ _ _ _ _ _ F_draw hr (by decide) rfl (@pa_cons _ _ _ _ _ (pv 0) (@pa_cons _ _ _ _ _ pe_int pa_nil (by rfl)) (by rfl)) (by decide) (by rfl) (by rfl)) (fun _ _ => rfl))))))), ?_⟩
    refine ⟨(by show 1 ≤ sizeLine; decide), fun a1 ha1 => ?_⟩
    have s1 : Same H (upd H a1 (.tup [.str "a"])) := Same.new ha1
    have f1 : (upd H a1 (.tup [.str "a"])) a1 = some (.tup [.str "a"]) := upd_same
    generalize upd H a1 (.tup [.str "a"]) = H1 at s1 f1 ⊢
    refine ⟨(by show 0 ≤ sizeLine; decide), fun a2 ha2 => ?_⟩
    have s2 : Same H1 (upd H1 a2 (.lst [])) := Same.new ha2
    have f2 : (upd H1 a2 (.lst [])) a2 = some (.lst []) := upd_same
    generalize upd H1 a2 (.lst []) = H2 at s2 f2 ⊢
    refine ⟨(by show 11 ≤ sizeLine; decide), fun m hm => ?_⟩
    have s3 : Same H2 (upd H2 m (.lst (oddL a1 a2))) := Same.new hm
    have f3 : (upd H2 m (.lst (oddL a1 a2))) m = some (.lst (oddL a1 a2)) := upd_same
    have po := odd_ok (s3 _ _ (s2 _ _ f1)) (s3 _ _ f2)
    have s03 := s1.trans (s2.trans s3)
    show tCall _ _ _ _ _ (upd H2 m (.lst (oddL a1 a2))) _
    generalize upd H2 m (.lst (oddL a1 a2)) = H3 at s3 f3 po s03 ⊢
    have F3 := F.same s03
    refine ⟨_, rfl, d, _, rfl, F3, by decide, by decide, fun q H4 q0 q1 F4 sb4 => ?_⟩
    obtain ⟨odd, hodd, modd⟩ := at_mem (xs := oddL a1 a2) q0 q1
    have eo : E3 H4 odd := (po odd modd).sb F3 sb4
    have nt : t ≠ d := F.neT ht
    have ht4 := sb4 _ _ nt (s03 _ _ ht)
    have px4 := E3s.sb F3 sb4 (E3s.same s03 px)
    have sb04 : SameB d H H4 := s03.b.trans sb4
    refine ⟨m, _, _, _, rfl, rfl, SqL.of (sb4 _ _ (F3.nl f3) f3), hodd, ?_⟩
    refine ⟨_, rfl, _, rfl, t, _, rfl, .inr (SqT.of ht4), _, _, rfl, rfl, d, _, rfl, F4, by omega, by omega, fun at_ H5 i0 i1 F5 sb5 => ?_⟩
    have ht5 := sb5 _ _ nt ht4
    have px5 := E3s.sb F4 sb5 px4
    have eo5 := eo.sb F4 sb5
    have sb05 := sb04.trans sb5
    have cl := fun lo hi => cutV_length xs lo hi
    refine ⟨_, rfl, _, rfl, _, rfl, t, xs, rfl, ht5, fun p1 G1 t1 g1 => ?_⟩
    refine ⟨_, rfl, (by show 1 ≤ sizeLine; decide), fun p2 hp2 => ?_⟩
    have t2 := t1.then (o := .tup [odd]) hp2
    have g12 := Same.new (o := .tup [odd]) hp2 _ _ g1
    have g2 : (upd G1 p2 (.tup [odd])) p2 = some (.tup [odd]) := upd_same
    generalize upd G1 p2 (.tup [odd]) = G2 at t2 g12 g2 ⊢
    have c1 := cl none (some at_)
    refine ⟨p1, p2, _, _, rfl, rfl, g12, g2, (by rw [List.length_singleton]; omega), fun p3 G3 t3 g3 => ?_⟩
    have u3 := t2.trans t3
    have c2 := cl (some (at_ + 1)) none
    refine ⟨_, rfl, _, rfl, _, _, rfl, rfl, _, rfl, t, xs, rfl, u3 _ _ ht5, fun p4 G4 t4 g4 => ?_⟩
    have u4 := u3.trans t4
    refine ⟨p3, p4, _, _, rfl, rfl, t4 _ _ g3, g4, (by rw [List.length_append, List.length_singleton]; omega), fun p5 G5 t5 g5 => ?_⟩
    have u5 := u4.trans t5
    refine ⟨_, rfl, _, rfl, _, rfl, t, xs, rfl, u5 _ _ ht5, fun p6 G6 t6 g6 => ?_⟩
    have u6 := u5.trans t6
    refine ⟨_, rfl, (by show 1 ≤ sizeLine; decide), fun p7 hp7 => ?_⟩
    have u7 := u6.then (o := .tup [odd]) hp7
    have t7 := Same.new (o := .tup [odd]) hp7
    have g7 : (upd G6 p7 (.tup [odd])) p7 = some (.tup [odd]) := upd_same
    generalize upd G6 p7 (.tup [odd]) = G7 at u7 t7 g7 ⊢
    refine ⟨p6, p7, _, _, rfl, rfl, t7 _ _ g6, g7, (by rw [List.length_singleton]; omega), fun p8 G8 t8 g8 => ?_⟩
    have u8 := u7.trans t8
    have c3 := cl (some at_) none
    refine ⟨_, rfl, _, rfl, _, rfl, t, xs, rfl, u8 _ _ ht5, fun p9 G9 t9 g9 => ?_⟩
    have u9 := u8.trans t9
    refine ⟨p8, p9, _, _, rfl, rfl, t9 _ _ g8, g9, (by rw [List.length_append, List.length_singleton]; omega), fun pa Ga ta ga => ?_⟩
    have ua := u9.trans ta
    refine ⟨_, rfl, _, rfl, _, rfl, t, xs, rfl, ua _ _ ht5, fun pb Gb tb gb => ?_⟩
    have ub := ua.trans tb
    refine ⟨_, rfl, _, rfl, _, _, rfl, rfl, _, rfl, t, xs, rfl, ub _ _ ht5, fun pc Gc tc gc => ?_⟩
    have uc := ub.trans tc
    refine ⟨pb, pc, _, _, rfl, rfl, tc _ _ gb, gc, (by omega), fun pd Gd td gd => ?_⟩
    have ud := uc.trans td
    have b5 := td _ _ (tc _ _ (tb _ _ (ta _ _ (t9 _ _ (t8 _ _ (t7 _ _ (t6 _ _ g5)))))))
    have ba := td _ _ (tc _ _ (tb _ _ ga))
    refine ⟨(by show 3 ≤ sizeLine; decide), fun l hl' => ?_⟩
    have ue := ud.then (o := .lst [.ref p5, .ref pa, .ref pd]) hl'
    have te := Same.new (o := .lst [.ref p5, .ref pa, .ref pd]) hl'
    have ge : (upd Gd l (.lst [.ref p5, .ref pa, .ref pd])) l = some (.lst [.ref p5, .ref pa, .ref pd]) := upd_same
    generalize upd Gd l (.lst [.ref p5, .ref pa, .ref pd]) = Ge at ue te ge ⊢
    refine ⟨_, rfl, _, rfl, t, xs, rfl, .inr (SqT.of (ue _ _ ht5)), fun l2 hl2 => ?_⟩
    have uf := ue.then (o := .lst xs) hl2
    have tf := Same.new (o := .lst xs) hl2
    have gf : (upd Ge l2 (.lst xs)) l2 = some (.lst xs) := upd_same
    generalize upd Ge l2 (.lst xs) = Gf at uf tf gf ⊢
    refine ⟨_, rfl, _, rfl, t, xs, rfl, uf _ _ ht5, fun pg Gg tg gg => ?_⟩
    have ug := uf.trans tg
    refine ⟨_, rfl, _, rfl, t, xs, rfl, ug _ _ ht5, fun ph Gh th gh => ?_⟩
    have uh := ug.trans th
    refine ⟨_, rfl, ph, _, rfl, rfl, gh, fun pi hpi => ?_⟩
    have c4 := cl none (some 1)
    have c5 := cl (some 1) none
    have ui := uh.then (o := .tup (cutV xs (some 1) none).reverse) hpi
    have ti := Same.new (o := .tup (cutV xs (some 1) none).reverse) hpi
    have gi : (upd Gh pi (.tup (cutV xs (some 1) none).reverse)) pi = some (.tup (cutV xs (some 1) none).reverse) := upd_same
    generalize upd Gh pi (.tup (cutV xs (some 1) none).reverse) = Gi at ui ti gi ⊢
    refine ⟨pg, pi, _, _, rfl, rfl, ti _ _ (th _ _ gg), gi, (by rw [List.length_reverse]; omega), fun pj Gj tj gj => ?_⟩
    have uj := ui.trans tj
    refine ⟨(by show 2 ≤ sizeLine; decide), fun l3 hl3 => ?_⟩
    have uk := uj.then (o := .lst [.ref l2, .ref pj]) hl3
    have tk := Same.new (o := .lst [.ref l2, .ref pj]) hl3
    have gk : (upd Gj l3 (.lst [.ref l2, .ref pj])) l3 = some (.lst [.ref l2, .ref pj]) := upd_same
    generalize upd Gj l3 (.lst [.ref l2, .ref pj]) = Gk at uk tk gk ⊢
    have k2 := fun b u (h : Gf b = some u) => tk b u (tj _ _ (ti _ _ (th _ _ (tg _ _ h))))
    have k1 := fun b u (h : Gd b = some u) => k2 b u (tf _ _ (te _ _ h))
    refine ⟨l, l3, _, _, rfl, rfl, k2 _ _ (tf _ _ ge), gk, (by show 5 ≤ sizeLine; decide), fun l4 hl4 => ?_⟩
    have ul := uk.then (o := .lst [.ref p5, .ref pa, .ref pd, .ref l2, .ref pj]) hl4
    have tl := Same.new (o := .lst [.ref p5, .ref pa, .ref pd, .ref l2, .ref pj]) hl4
    have gl : (upd Gk l4 (.lst [.ref p5, .ref pa, .ref pd, .ref l2, .ref pj])) l4 = some (.lst [.ref p5, .ref pa, .ref pd, .ref l2, .ref pj]) := upd_same
    show tCall _ _ _ _ _ (upd Gk l4 (.lst [.ref p5, .ref pa, .ref pd, .ref l2, .ref pj])) _
    generalize upd Gk l4 (.lst [.ref p5, .ref pa, .ref pd, .ref l2, .ref pj]) = Gl at ul tl gl ⊢
    have Fl := F5.same ul
    have pxl := E3s.same ul px5
    have eol := E3s.one (eo5.same ul)
    refine ⟨_, rfl, d, _, rfl, Fl, by decide, by decide, fun r Hz r0 r1 Fz sbz => ?_⟩
    obtain ⟨y, hy, my⟩ := at_mem (xs := [.ref p5, .ref pa, .ref pd, .ref l2, .ref pj]) r0 r1
    have fz := sbz _ _ (Fl.nl gl) gl
    have sz : SameB d H Hz := sb05.trans (ul.b.trans sbz)
    refine ⟨l4, _, _, _, rfl, rfl, SqL.of fz, hy, ?_⟩
    have T : ∃ o, T3 Gl y o := by
      simp only [List.mem_cons, List.not_mem_nil, or_false] at my
      rcases my with rfl | rfl | rfl | rfl | rfl
      · exact ⟨_, .tup (tl _ _ (k1 _ _ b5)) (E3s.app (E3s.app (E3s.cut pxl) eol) (E3s.cut pxl)) (by rw [List.length_append, List.length_append, List.length_singleton]; omega)⟩
      · exact ⟨_, .tup (tl _ _ (k1 _ _ ba)) (E3s.app (E3s.app (E3s.cut pxl) eol) (E3s.cut pxl)) (by rw [List.length_append, List.length_append, List.length_singleton]; omega)⟩
      · exact ⟨_, .tup (tl _ _ (k1 _ _ gd)) (E3s.app (E3s.cut pxl) (E3s.cut pxl)) (by rw [List.length_append]; omega)⟩
      · exact ⟨_, .lst (tl _ _ (k2 _ _ gf))⟩
      · exact ⟨_, .tup (tl _ _ (tk _ _ gj)) (E3s.app (E3s.cut pxl) fun y hy => E3s.cut pxl y (List.mem_reverse.mp hy)) (by rw [List.length_append, List.length_reverse]; omega)⟩
    obtain ⟨o, T⟩ := T
    exact k y o Hz (T.sb Fl sbz) Fz sz
end
end Kx
set_option Elab.async false
set_option linter.all false
set_option maxRecDepth 100000
set_option maxHeartbeats 0
namespace Kx
open PySem PySem.Spec PyProof.Rows L2 Wd
section
variable {P : Program} {w : World} {K : PySem.W.Frag} {mg : Str → Option Value} {base : Heap} {aB : Addr}
theorem lay_iff {z : Str} : (PyData.str z).canLay0 = true ↔ ∀ c ∈ z.cps.toList, c < 1114112 := by
  unfold PyData.canLay0 PyData.strOk
  rw [← Array.all_toList, List.all_eq_true]
  exact ⟨fun h c hc => of_decide_eq_true (h c hc), fun h c hc => decide_eq_true (h c hc)⟩
theorem lay_app {x y : Str} (h : (PyData.str x).canLay0 = true) (g : (PyData.str y).canLay0 = true) : (PyData.str (x ++ y)).canLay0 = true := by
  rw [lay_iff] at h g ⊢
  intro c hc
  have e : (x ++ y).cps.toList = x.cps.toList ++ y.cps.toList := Array.toList_append
  rw [e] at hc
  exact (List.mem_append.mp hc).elim (h c) (g c)
theorem mem_cps {z : Str} {k : Nat} {c : Nat} (h : z.cps[k]? = some c) : c ∈ z.cps.toList := by
  have : z.cps.toList[k]? = some c := by simpa using h
  exact List.mem_of_getElem? this
theorem lay_slice {z : Str} (lo hi : Option Int) (h : (PyData.str z).canLay0 = true) : (PyData.str (Txt.slice z lo hi)).canLay0 = true := by
  rw [lay_iff] at h ⊢
  intro c hc
  unfold Txt.slice at hc
  split at hc
  · exact h c hc
  · obtain ⟨k, _, e⟩ := List.mem_filterMap.mp (show c ∈ List.filterMap _ _ from by simpa using hc)
    exact h c (mem_cps e)
theorem lay_rev {z : Str} (h : (PyData.str z).canLay0 = true) : (PyData.str (revS z)).canLay0 = true := by
  rw [lay_iff] at h ⊢
  intro c hc
  unfold revS at hc
  rw [step_rev_list] at hc
  obtain ⟨k, hk, e⟩ := List.mem_map.mp hc
  have hk := List.mem_range.mp hk
  have hn : z.length = z.cps.size := rfl
  have : z.cps[z.length - 1 - k]? = some c := by
    rw [← e]
    simp [Array.getD, show z.length - 1 - k < z.cps.size by omega]
  exact h c (mem_cps this)
theorem rev_len (z : Str) : (revS z).length = z.length := step_rev_len z 0
theorem slice_len (z : Str) (lo hi : Option Int) : (Txt.slice z lo hi).length ≤ HT.sIx z.length z.length hi - HT.sIx z.length 0 lo := by
  unfold Txt.slice
  rw [idx_gen]
  split
  · rename_i h
    have hl : HT.sIx z.length z.length hi - HT.sIx z.length 0 lo = z.length := by simpa using h
    omega
  · show (List.filterMap _ _).toArray.size ≤ _
    rw [List.size_toArray]
    exact Nat.le_trans (List.length_filterMap_le _ _) (by simp)
theorem sl_to (z : Str) (i : Nat) : (Txt.slice z none (some (i : Int))).length ≤ min i z.length := by
  have := slice_len z none (some (i : Int))
  rw [HT.sIx_nat, HT.sIx_none] at this
  omega
theorem sl_from (z : Str) (i : Nat) : (Txt.slice z (some (i : Int)) none).length ≤ z.length - i := by
  have := slice_len z (some (i : Int)) none
  rw [HT.sIx_nat, HT.sIx_none] at this
  omega
theorem sl_mid (z : Str) (i j : Nat) : (Txt.slice z (some (i : Int)) (some (j : Int))).length ≤ min j z.length - min i z.length := by
  have := slice_len z (some (i : Int)) (some (j : Int))
  rw [HT.sIx_nat, HT.sIx_nat] at this
  omega
theorem at_all {α : Type} {xs : List α} {q : Int} (h0 : 0 ≤ q) (h1 : q < xs.length) : ∃ y, atI xs q = some y ∧ y ∈ xs := by
  obtain ⟨k, rfl⟩ := Int.eq_ofNat_of_zero_le h0
  have hk : k < xs.length := by omega
  refine ⟨xs[k], ?_, List.getElem_mem hk⟩
  unfold atI ixN
  rw [if_pos (by omega), if_pos (by omega)]
  show xs[((k : Nat) : Int).toNat]? = _
  rw [Int.toNat_natCast, List.getElem?_eq_getElem hk]
noncomputable def sgnL : Str := " !\"#$&'()*+,-./0123456789:;<=>?@ABCDEFGHIJKLMNOPQRSTUVWXYZ[\\]^_`abcdefghijklmnopqrstuvwxyz{|}~"
theorem sgnL_len : sgnL.cps.toList.length = 94 := by decide +kernel
theorem sgnL_ok : ∀ c ∈ sgnL.cps.toList, c < 1114112 := by decide +kernel
noncomputable abbrev s_sign : Stmt := top 44
theorem sc_sign : FnScope ["_law_feed_here", "_law_signs"] ["_law_feed_here"] (defScope s_sign) := ⟨rfl, rfl, rfl, by decide +kernel, rfl, by decide +kernel, by decide +kernel⟩
theorem c_sign (D : Df K mg "_law_sign" s_sign) (T : Bt K w mg aB) (F_draw : Fnc P w K mg base "_law_draw" ["_law_feed_here", "_law_many"] 1 spDraw) : Fnc P w K mg base "_law_sign" ["_law_feed_here"] 2 spSign := by
  have sc := sc_sign
  refine D.ok sc (fun _ _ _ _ _ _ us hl => by obtain ⟨_, rfl⟩ := len1 hl; rfl) (fun vs H Q E h => ?_) (fun f cdv A outer s H vs Q E hr h => ?_)
  · obtain ⟨d, rfl, _⟩ := h
    rfl
  · obtain ⟨d, rfl, F, k⟩ := h
    have l16 := line16
    refine ⟨_, (@pss_cons _ _ _ _ _ (@ps_set _ _ (1) _ _ _ _ sc.nd rfl (Or.inl rfl) pe_str (by rfl) (by first | exact .inl rfl | exact .inr rfl | assumption)) (@pss_one _ _ _ (@ps_ret _ _ _ _ (@pe_ix _ _ _ _ _ _ _ ix_str (pv 1) (@pe_fn _ _ _ _ _ _ _ _ _ _ _ F_draw hr (by decide) rfl (@pa_cons _ _ _ _ _ (pv 0) (@pa_cons _ _ _ _ _ pe_int pa_nil (by rfl)) (by rfl)) (by decide) (by rfl) (by rfl)) (fun _ _ => rfl))))), ?_⟩
    refine ⟨_, rfl, _, rfl, d, _, rfl, F, by decide, by decide, fun q H1 q0 q1 F1 sb1 => ?_⟩
    obtain ⟨c, hc, mc⟩ := at_all (xs := sgnL.cps.toList) q0 (by rw [sgnL_len]; exact q1)
    refine ⟨sgnL, _, c, rfl, rfl, (by have := sgnL_len; have e : sgnL.length = sgnL.cps.toList.length := by simp [Str.length]
                                      omega), hc, ?_⟩
    refine k _ _ rfl (lay_iff.mpr fun x hx => ?_) F1 sb1
    have : x = c := by simpa using hx
    rw [this]
    exact sgnL_ok c mc
noncomputable abbrev s_texts : Stmt := top 45
theorem sc_texts : FnScope ["_law_feed_here", "_law_text", "_law_at", "_law_sign_here", "_law_some_here"] ["_law_feed_here", "_law_text"] (defScope s_texts) := ⟨rfl, rfl, rfl, by decide +kernel, rfl, by decide +kernel, by decide +kernel⟩
theorem c_texts (D : Df K mg "_law_text_spoilt" s_texts) (T : Bt K w mg aB) (F_draw : Fnc P w K mg base "_law_draw" ["_law_feed_here", "_law_many"] 1 spDraw) (F_sign : Fnc P w K mg base "_law_sign" ["_law_feed_here"] 2 spSign) : Fnc P w K mg base "_law_text_spoilt" ["_law_feed_here", "_law_text"] 3 spTextS := by
  have sc := sc_texts
  refine D.ok sc (fun _ _ _ _ _ _ us hl => by obtain ⟨_, _, rfl⟩ := len2 hl; rfl) (fun vs H Q E h => ?_) (fun f cdv A outer s H vs Q E hr h => ?_)
  · obtain ⟨d, z, rfl, _⟩ := h
    rfl
  · obtain ⟨d, z, rfl, F, hz, hc, k⟩ := h
    have l16 := line16
    refine ⟨_, (@pss_cons _ _ _ _ _ (@ps_set _ _ (2) _ _ _ _ sc.nd rfl (Or.inl rfl) (@pe_fn _ _ _ _ _ _ _ _ _ _ _ F_draw hr (by decide) rfl (@pa_cons _ _ _ _ _ (pv 0) (@pa_cons _ _ _ _ _ (@pe_op _ _ _ _ _ _ _ _ op_add (@pe_callB _ _ _ _ _ _ _ _ _ call_len_str (by rfl) T.len PySem.boot_len (@pa_cons _ _ _ _ _ (pv 1) pa_nil (by rfl)) (by decide) (by decide) (by rfl) (by rfl)) pe_int) pa_nil (by rfl)) (by rfl)) (by decide) (by rfl) (by rfl)) (by rfl) (by first | exact .inl rfl | exact .inr rfl | assumption)) (@pss_cons _ _ _ _ _ (@ps_set _ _ (3) _ _ _ _ sc.nd rfl (Or.inl rfl) (@pe_fn _ _ _ _ _ _ _ _ _ _ _ F_sign hr (by decide) rfl (@pa_cons _ _ _ _ _ (pv 0) pa_nil (by rfl)) (by decide) (by rfl) (by rfl)) (by rfl) (by first | exact .inl rfl | exact .inr rfl | assumption)) (@pss_cons _ _ _ _ _ (@ps_set _ _ (4) _ _ _ _ sc.nd rfl (Or.inl rfl) (@pe_lst _ _ _ _ (@pa_cons _ _ _ _ _ (@pe_op _ _ _ _ _ _ _ _ op_add_str (@pe_op _ _ _ _ _ _ _ _ op_add_str (@pe_slice _ _ _ _ _ _ _ _ _ _ sl_str (pv 1) po_none (@po_some _ _ _ (pv 2))) (pv 3)) (@pe_slice _ _ _ _ _ _ _ _ _ _ sl_str (pv 1) (@po_some _ _ _ (pv 2)) po_none)) (@pa_cons _ _ _ _ _ (@pe_op _ _ _ _ _ _ _ _ op_add_str (@pe_slice _ _ _ _ _ _ _ _ _ _ sl_str (pv 1) po_none (@po_some _ _ _ (pv 2))) (@pe_slice _ _ _ _ _ _ _ _ _ _ sl_str (pv 1) (@po_some _ _ _ (@pe_op _ _ _ _ _ _ _ _ op_add (pv 2) pe_int)) po_none)) pa_nil (by rfl)) (by rfl))) (by rfl) (by first | exact .inl rfl | exact .inr rfl | assumption)) (@pss_cons _ _ _ _ _ (@ps_expr _ _ _ _ (@pe_bm _ _ _ _ _ _ _ _ _ _ _ _ PySem.F.plainAttrs_list PySem.F.slot_list_append PySem.F.type_list_append mt_append (pv 4) (@pa_cons _ _ _ _ _ (@pe_op _ _ _ _ _ _ _ _ op_add_str (@pe_op _ _ _ _ _ _ _ _ op_add_str (@pe_slice _ _ _ _ _ _ _ _ _ _ sl_str (pv 1) po_none (@po_some _ _ _ (pv 2))) (pv 3)) (@pe_slice _ _ _ _ _ _ _ _ _ _ sl_str (pv 1) (@po_some _ _ _ (@pe_op _ _ _ _ _ _ _ _ op_add (pv 2) pe_int)) po_none)) pa_nil (by rfl)) (by rfl) (by rfl) (by rfl) (by rfl) (by rfl)) (by rfl)) (@pss_cons _ _ _ _ _ (@ps_expr _ _ _ _ (@pe_bm _ _ _ _ _ _ _ _ _ _ _ _ PySem.F.plainAttrs_list PySem.F.slot_list_append PySem.F.type_list_append mt_append (pv 4) (@pa_cons _ _ _ _ _ (@pe_op _ _ _ _ _ _ _ _ op_add_str (@pe_op _ _ _ _ _ _ _ _ op_add_str (@pe_slice _ _ _ _ _ _ _ _ _ _ sl_str (pv 1) po_none (@po_some _ _ _ (pv 2))) (@pe_revS _ _ _ _ _ _ _ (@pe_slice _ _ _ _ _ _ _ _ _ _ sl_str (pv 1) (@po_some _ _ _ (pv 2)) (@po_some _ _ _ (@pe_op _ _ _ _ _ _ _ _ op_add (pv 2) pe_int))) (@pe_un _ _ _ _ _ _ un_neg pe_int))) (@pe_slice _ _ _ _ _ _ _ _ _ _ sl_str (pv 1) (@po_some _ _ _ (@pe_op _ _ _ _ _ _ _ _ op_add (pv 2) pe_int)) po_none)) pa_nil (by rfl)) (by rfl) (by rfl) (by rfl) (by rfl) (by rfl)) (by rfl)) (@pss_one _ _ _ (@ps_ret _ _ _ _ (@pe_ix _ _ _ _ _ _ _ ix_list (pv 4) (@pe_fn _ _ _ _ _ _ _ _ _ _ _ F_draw hr (by decide) rfl (@pa_cons _ _ _ _ _ (pv 0) (@pa_cons _ _ _ _ _ pe_int pa_nil (by rfl)) (by rfl)) (by decide) (by rfl) (by rfl)) (fun _ _ => rfl))))))))), ?_⟩
    have zl : z.length ≤ sizeLine := by omega
    refine ⟨_, rfl, _, rfl, z, rfl, zl, _, _, rfl, rfl, d, _, rfl, F, by omega, by omega, fun q H1 q0 q1 F1 sb1 => ?_⟩
    obtain ⟨i, rfl⟩ := Int.eq_ofNat_of_zero_le q0
    have hi : i ≤ z.length := by omega
    refine ⟨_, rfl, d, rfl, F1, fun y H2 ly cy F2 sb2 => ?_⟩
    have b1 := sl_to z i
    have b2 := sl_from z i
    have b3 := sl_from z (i + 1)
    have b4 := sl_from z (i + 2)
    have b5 := sl_mid z i (i + 2)
    have e1 : ((i + 1 : Nat) : Int) = (i : Int) + 1 := rfl
    have e2 : ((i + 2 : Nat) : Int) = (i : Int) + 2 := rfl
    rw [e1] at b3
    rw [e2] at b4 b5
    have c1 := lay_slice none (some (i : Int)) hc
    have c2 := lay_slice (some (i : Int)) none hc
    have c3 := lay_slice (some ((i : Int) + 1)) none hc
    have c4 := lay_slice (some ((i : Int) + 2)) none hc
    have c5 := lay_rev (lay_slice (some (i : Int)) (some ((i : Int) + 2)) hc)
    have r5 := rev_len (Txt.slice z (some (i : Int)) (some ((i : Int) + 2)))
    refine ⟨_, rfl, _, rfl, _, rfl, z, rfl, zl, _, rfl, _, _, rfl, rfl, (by omega), ?_⟩
    refine ⟨_, rfl, _, rfl, _, rfl, z, rfl, zl, _, _, rfl, rfl, (by rw [Str.length_append]; omega), ?_⟩
    refine ⟨_, rfl, _, rfl, _, rfl, z, rfl, zl, ?_⟩
    refine ⟨_, rfl, _, rfl, _, _, rfl, rfl, _, rfl, z, rfl, zl, _, _, rfl, rfl, (by omega), ?_⟩
    generalize eA : Txt.slice z none (some (i : Int)) ++ y ++ Txt.slice z (some (i : Int)) none = A
    generalize eB : Txt.slice z none (some (i : Int)) ++ Txt.slice z (some ((i : Int) + 1)) none = B
    have lA : A.length ≤ z.length + 1 := by rw [← eA, Str.length_append, Str.length_append]; omega
    have lB : B.length ≤ z.length + 1 := by rw [← eB, Str.length_append]; omega
    have oA : (PyData.str A).canLay0 = true := by rw [← eA]; exact lay_app (lay_app c1 cy) c2
    have oB : (PyData.str B).canLay0 = true := by rw [← eB]; exact lay_app c1 c3
    refine ⟨(by show 2 ≤ sizeLine; decide), fun l hl => ?_⟩
    have nl : l ≠ d := F2.ne hl
    refine ⟨_, rfl, .inl ⟨rfl, _, SqL.of upd_same⟩, ?_⟩
    refine ⟨_, rfl, _, rfl, _, rfl, z, rfl, zl, _, rfl, _, _, rfl, rfl, (by omega), ?_⟩
    refine ⟨_, rfl, _, rfl, _, _, rfl, rfl, _, rfl, z, rfl, zl, _, _, rfl, rfl, (by rw [Str.length_append]; omega), ?_⟩
    refine ⟨l, _, _, rfl, rfl, upd_same, (by show 2 < sizeLine; decide), ?_⟩
    rw [upd_upd]
    generalize eC : Txt.slice z none (some (i : Int)) ++ y ++ Txt.slice z (some ((i : Int) + 1)) none = C
    have lC : C.length ≤ z.length + 1 := by rw [← eC, Str.length_append, Str.length_append]; omega
    have oC : (PyData.str C).canLay0 = true := by rw [← eC]; exact lay_app (lay_app c1 cy) c3
    refine ⟨_, rfl, .inl ⟨rfl, _, SqL.of upd_same⟩, ?_⟩
    refine ⟨_, rfl, _, rfl, _, rfl, z, rfl, zl, ?_⟩
    refine ⟨_, rfl, _, rfl, _, rfl, _, rfl, _, _, rfl, rfl, _, rfl, z, rfl, zl, ?_⟩
    refine ⟨_, rfl, _, rfl, rfl, (by omega), ?_⟩
    refine ⟨_, _, rfl, rfl, (by omega), ?_⟩
    refine ⟨_, rfl, _, rfl, _, _, rfl, rfl, _, rfl, z, rfl, zl, _, _, rfl, rfl, (by rw [Str.length_append]; omega), ?_⟩
    refine ⟨l, _, _, rfl, rfl, upd_same, (by show 3 < sizeLine; decide), ?_⟩
    rw [upd_upd]
    generalize eE : Txt.slice z none (some (i : Int)) ++ revS (Txt.slice z (some (i : Int)) (some ((i : Int) + 2))) ++ Txt.slice z (some ((i : Int) + 2)) none = E'
    have lE : E'.length ≤ z.length + 1 := by rw [← eE, Str.length_append, Str.length_append]; omega
    have oE : (PyData.str E').canLay0 = true := by rw [← eE]; exact lay_app (lay_app c1 c5) c4
    have s3 : Same H2 (upd H2 l (.lst [.str A, .str B, .str C, .str E'])) := Same.new hl
    have f3 : (upd H2 l (.lst [.str A, .str B, .str C, .str E'])) l = some (.lst [.str A, .str B, .str C, .str E']) := upd_same
    refine ⟨_, rfl, _, rfl, d, _, rfl, F2.same s3, by decide, by decide, fun r H4 r0 r1 F4 sb4 => ?_⟩
    obtain ⟨x, hx, mx⟩ := at_mem (xs := [.str A, .str B, .str C, .str E']) r0 r1
    refine ⟨l, _, _, _, rfl, rfl, SqL.of (sb4 _ _ nl f3), hx, ?_⟩
    have sb : SameB d H H4 := sb1.trans (sb2.trans (s3.b.trans sb4))
    simp only [List.mem_cons, List.not_mem_nil, or_false] at mx
    rcases mx with rfl | rfl | rfl | rfl
    · exact k A _ lA oA F4 sb
    · exact k B _ lB oB F4 sb
    · exact k C _ lC oC F4 sb
    · exact k E' _ lE oE F4 sb
end
end Kx
set_option Elab.async false
set_option linter.all false
set_option maxRecDepth 100000
set_option maxHeartbeats 0
namespace Kx
open PySem PySem.Spec PyProof.Rows L2 Wd
section
variable {P : Program} {w : World} {K : PySem.W.Frag} {mg : Str → Option Value} {base : Heap} {aB : Addr}
noncomputable abbrev s_spoilt : Stmt := top 46
theorem sc_spoilt : FnScope ["_law_feed_here", "_law_thing", "_law_at", "_law_some_here"] ["_law_feed_here", "_law_thing"] (defScope s_spoilt) := ⟨rfl, rfl, rfl, by decide +kernel, rfl, by decide +kernel, by decide +kernel⟩
theorem kitN_int {K : PySem.W.Frag} : PySem.W.kitOne K (.type "int") (.type "int") = some true := by unfold PySem.W.kitOne; rw [if_pos (by rfl)]
theorem kitN_tup {K : PySem.W.Frag} : PySem.W.kitOne K (.type "tuple") (.type "int") = some false := by kernel_rfl
theorem kitN_list {K : PySem.W.Frag} : PySem.W.kitOne K (.type "list") (.type "int") = some false := by kernel_rfl
theorem c_spE (D : Df K mg "_law_spoilt" s_spoilt) (T : Bt K w mg aB) (F_draw : Fnc P w K mg base "_law_draw" ["_law_feed_here", "_law_many"] 1 spDraw) (F_texts : Fnc P w K mg base "_law_text_spoilt" ["_law_feed_here", "_law_text"] 3 spTextS) (F_spoilt : Fnc P w K mg base "_law_spoilt" ["_law_feed_here", "_law_thing"] 0 spNo) : Fnc P w K mg base "_law_spoilt" ["_law_feed_here", "_law_thing"] 4 spSpE := by
  have sc := sc_spoilt
  refine D.ok sc (fun _ _ _ _ _ _ us hl => by obtain ⟨_, _, rfl⟩ := len2 hl; rfl) (fun vs H Q E h => ?_) (fun f cdv A outer s H vs Q E hr h => ?_)
  · obtain ⟨d, j, x, rfl, _⟩ := h
    rfl
  · obtain ⟨d, j, x, rfl, F, hj, hx, k⟩ := h
    have l16 := line16
    refine ⟨_, (@pss_cons _ _ _ _ _ (@ps_if _ _ _ _ _ _ _ _ (@pt_truth _ _ _ (@pe_callB _ _ _ _ _ _ _ _ _ (@call_isK _ (K) rfl) (by rfl) T.isinstance b_isinstance (@pa_cons _ _ _ _ _ (pv 1) (@pa_cons _ _ _ _ _ (@pe_bltn _ _ (.ty "str") _ _ rfl T.str b_str rfl (by decide) (by decide)) pa_nil (by rfl)) (by rfl)) (by decide) (by decide) (by rfl) (by rfl)) (fun _ => rfl)) (@pss_one _ _ _ (@ps_ret _ _ _ _ (@pe_fn _ _ _ _ _ _ _ _ _ _ _ F_texts hr (by decide) rfl (@pa_cons _ _ _ _ _ (pv 0) (@pa_cons _ _ _ _ _ (pv 1) pa_nil (by rfl)) (by rfl)) (by decide) (by rfl) (by rfl)))) pss_nil) (@pss_cons _ _ _ _ _ (@ps_if _ _ _ _ _ _ _ _ (@pt_truth _ _ _ (@pe_callB _ _ _ _ _ _ _ _ _ (@call_isK _ (K) rfl) (by rfl) T.isinstance b_isinstance (@pa_cons _ _ _ _ _ (pv 1) (@pa_cons _ _ _ _ _ (@pe_bltn _ _ (.ty "int") _ _ rfl T.int b_int rfl (by decide) (by decide)) pa_nil (by rfl)) (by rfl)) (by decide) (by decide) (by rfl) (by rfl)) (fun _ => rfl)) (@pss_one _ _ _ (@ps_ret _ _ _ _ (@pe_ix _ _ _ _ _ _ _ ix_list (@pe_lst _ _ _ _ (@pa_c _ _ _ _ _ (@pe_op _ _ _ _ _ _ _ _ op_add (pv 1) pe_int) (@pa_c _ _ _ _ _ (@pe_op _ _ _ _ _ _ _ _ op_sub (pv 1) pe_int) (@pa_c _ _ _ _ _ (@pe_op _ _ _ _ _ _ _ _ op_sub (@pe_op _ _ _ _ _ _ _ _ op_sub pe_int (pv 1)) pe_int) (@pa_c _ _ _ _ _ (@pe_cmpR _ _ _ _ _ _ _ _ op_eq (pv 1) pe_int (nomark _)) (@pa_c _ _ _ _ _ (@pe_callTy _ _ _ _ _ _ _ _ _ call_strV (by rfl) T.str b_str (@pa_cons _ _ _ _ _ (pv 1) pa_nil (by rfl)) (by decide) (by decide) (by rfl) (by rfl)) pa_nil (by rfl)) (by rfl)) (by rfl)) (by rfl)) (by rfl))) (@pe_fn _ _ _ _ _ _ _ _ _ _ _ F_draw hr (by decide) rfl (@pa_cons _ _ _ _ _ (pv 0) (@pa_cons _ _ _ _ _ pe_int pa_nil (by rfl)) (by rfl)) (by decide) (by rfl) (by rfl)) (fun _ _ => rfl)))) pss_nil) (@pss_cons _ _ _ _ _ (@ps_if _ _ _ _ _ _ _ _ (@pt_not _ _ _ _ (@pt_truth _ _ _ (@pe_callB _ _ _ _ _ _ _ _ _ (@call_isK _ (K) rfl) (by rfl) T.isinstance b_isinstance (@pa_cons _ _ _ _ _ (pv 1) (@pa_cons _ _ _ _ _ (@pe_bltn _ _ (.ty "tuple") _ _ rfl T.tuple b_tuple rfl (by decide) (by decide)) pa_nil (by rfl)) (by rfl)) (by decide) (by decide) (by rfl) (by rfl)) (fun _ => rfl))) (@pss_one _ _ _ (@ps_ret _ _ _ _ pe_non)) pss_nil) (@pss_cons _ _ _ _ _ (@ps_set _ _ (2) _ _ _ _ sc.nd rfl (Or.inl rfl) (@pe_fn _ _ _ _ _ _ _ _ _ _ _ F_draw hr (by decide) rfl (@pa_cons _ _ _ _ _ (pv 0) (@pa_cons _ _ _ _ _ (@pe_op _ _ _ _ _ _ _ _ op_add (@pe_callB _ _ _ _ _ _ _ _ _ call_len_seq (by rfl) T.len PySem.boot_len (@pa_cons _ _ _ _ _ (pv 1) pa_nil (by rfl)) (by decide) (by decide) (by rfl) (by rfl)) pe_int) pa_nil (by rfl)) (by rfl)) (by decide) (by rfl) (by rfl)) (by rfl) (by first | exact .inl rfl | exact .inr rfl | assumption)) (@pss_cons _ _ _ _ _ (@ps_if _ _ _ _ _ _ _ _ (@PW.pt _ _ _ (@pw_and _ _ _ _ _ _ _ (@pt_cmpR _ _ _ _ _ _ _ _ op_lt (pv 2) (@pe_callB _ _ _ _ _ _ _ _ _ call_len_seq (by rfl) T.len PySem.boot_len (@pa_cons _ _ _ _ _ (pv 1) pa_nil (by rfl)) (by decide) (by decide) (by rfl) (by rfl)) (nomark _)) (@pw_and1 _ _ _ _ (@pt_cmpR _ _ _ _ _ _ _ _ op_gt (@pe_fn _ _ _ _ _ _ _ _ _ _ _ F_draw hr (by decide) rfl (@pa_cons _ _ _ _ _ (pv 0) (@pa_cons _ _ _ _ _ pe_int pa_nil (by rfl)) (by rfl)) (by decide) (by rfl) (by rfl)) pe_int (nomark _))))) (@pss_one _ _ _ (@ps_ret _ _ _ _ (@pe_op _ _ _ _ _ _ _ _ op_catU (@pe_op _ _ _ _ _ _ _ _ op_catU (@pe_slice _ _ _ _ _ _ _ _ _ _ sl_tupU (pv 1) po_none (@po_some _ _ _ (pv 2))) (@pe_tup _ _ _ _ _ (@pa_cons _ _ _ _ _ (@pe_fn _ _ _ _ _ _ _ _ _ _ _ F_spoilt hr (by decide) rfl (@pa_cons _ _ _ _ _ (pv 0) (@pa_cons _ _ _ _ _ (@pe_ix _ _ _ _ _ _ _ ix_tup (pv 1) (pv 2) (fun _ _ => rfl)) pa_nil (by rfl)) (by rfl)) (by decide) (by rfl) (by rfl)) pa_nil (by rfl)))) (@pe_slice _ _ _ _ _ _ _ _ _ _ sl_tupU (pv 1) (@po_some _ _ _ (@pe_op _ _ _ _ _ _ _ _ op_add (pv 2) pe_int)) po_none)))) pss_nil) (@pss_cons _ _ _ _ _ (@ps_set _ _ (3) _ _ _ _ sc.nd rfl (Or.inl rfl) (@pe_lst _ _ _ _ (@pa_cons _ _ _ _ _ (@pe_op _ _ _ _ _ _ _ _ op_catU (@pe_slice _ _ _ _ _ _ _ _ _ _ sl_tupU (pv 1) po_none (@po_some _ _ _ (pv 2))) (@pe_slice _ _ _ _ _ _ _ _ _ _ sl_tupU (pv 1) (@po_some _ _ _ (@pe_op _ _ _ _ _ _ _ _ op_add (pv 2) pe_int)) po_none)) (@pa_cons _ _ _ _ _ (@pe_callTy _ _ _ _ _ _ _ _ _ call_list_of (by rfl) T.list b_list (@pa_cons _ _ _ _ _ (pv 1) pa_nil (by rfl)) (by decide) (by decide) (by rfl) (by rfl)) (@pa_cons _ _ _ _ _ (@pe_op _ _ _ _ _ _ _ _ op_catU (pv 1) (@pe_tup _ _ _ _ _ (@pa_cons _ _ _ _ _ pe_int pa_nil (by rfl)))) pa_nil (by rfl)) (by rfl)) (by rfl))) (by rfl) (by first | exact .inl rfl | exact .inr rfl | assumption)) (@pss_cons _ _ _ _ _ (@ps_expr _ _ _ _ (@pe_bm _ _ _ _ _ _ _ _ _ _ _ _ PySem.F.plainAttrs_list PySem.F.slot_list_append PySem.F.type_list_append mt_append (pv 3) (@pa_cons _ _ _ _ _ (@pe_op _ _ _ _ _ _ _ _ op_catU (@pe_op _ _ _ _ _ _ _ _ op_catU (@pe_slice _ _ _ _ _ _ _ _ _ _ sl_tupU (pv 1) po_none (@po_some _ _ _ (pv 2))) (@pe_slice _ _ _ _ _ _ _ _ _ _ sl_tupU (pv 1) (@po_some _ _ _ (pv 2)) (@po_some _ _ _ (@pe_op _ _ _ _ _ _ _ _ op_add (pv 2) pe_int)))) (@pe_slice _ _ _ _ _ _ _ _ _ _ sl_tupU (pv 1) (@po_some _ _ _ (pv 2)) po_none)) pa_nil (by rfl)) (by rfl) (by rfl) (by rfl) (by rfl) (by rfl)) (by rfl)) (@pss_cons _ _ _ _ _ (@ps_expr _ _ _ _ (@pe_bm _ _ _ _ _ _ _ _ _ _ _ _ PySem.F.plainAttrs_list PySem.F.slot_list_append PySem.F.type_list_append mt_append (pv 3) (@pa_cons _ _ _ _ _ (@pe_op _ _ _ _ _ _ _ _ op_catU (@pe_op _ _ _ _ _ _ _ _ op_catU (@pe_slice _ _ _ _ _ _ _ _ _ _ sl_tupU (pv 1) po_none (@po_some _ _ _ (pv 2))) (@pe_revT _ _ _ _ _ _ _ (@pe_slice _ _ _ _ _ _ _ _ _ _ sl_tupU (pv 1) (@po_some _ _ _ (pv 2)) (@po_some _ _ _ (@pe_op _ _ _ _ _ _ _ _ op_add (pv 2) pe_int))) (@pe_un _ _ _ _ _ _ un_neg pe_int))) (@pe_slice _ _ _ _ _ _ _ _ _ _ sl_tupU (pv 1) (@po_some _ _ _ (@pe_op _ _ _ _ _ _ _ _ op_add (pv 2) pe_int)) po_none)) pa_nil (by rfl)) (by rfl) (by rfl) (by rfl) (by rfl) (by rfl)) (by rfl)) (@pss_one _ _ _ (@ps_ret _ _ _ _ (@pe_ix _ _ _ _ _ _ _ ix_list (pv 3) (@pe_fn _ _ _ _ _ _ _ _ _ _ _ F_draw hr (by decide) rfl (@pa_cons _ _ _ _ _ (pv 0) (@pa_cons _ _ _ _ _ pe_int pa_nil (by rfl)) (by rfl)) (by decide) (by rfl) (by rfl)) (fun _ _ => rfl)))))))))))), ?_⟩
    cases hx with
    | any h e => omega
    | str z h hc =>
      refine ⟨_, rfl, _, _, _, _, rfl, .str z, kit_str, _, rfl, ifsT ?_⟩
      exact ⟨_, rfl, _, rfl, d, z, rfl, F, by omega, hc, fun y H1 ly cy F1 sb1 => k _ _ (.str y (by omega) cy) F1 sb1⟩
    | zero h =>
      refine ⟨_, rfl, _, _, _, _, rfl, .int 0, kit_int, _, rfl, ifsF ?_⟩
      refine ⟨_, rfl, _, _, _, _, rfl, .int 0, kitN_int, _, rfl, ifsT ?_⟩
      refine ⟨_, rfl, _, _, rfl, rfl, _, rfl, _, _, rfl, rfl, _, rfl, _, _, rfl, rfl, _, _, rfl, rfl, _, rfl, rfl, _, rfl, .inl ⟨0, rfl, by decide, ?_⟩⟩
      refine ⟨(by show 5 ≤ sizeLine; decide), fun l hl => ?_⟩
      refine ⟨_, rfl, d, _, rfl, F.new hl, by decide, by decide, fun r H1 r0 r1 F1 sb1 => ?_⟩
      obtain ⟨y, hy, my⟩ := at_mem (xs := [.int (0 + 1), .int (0 - 1), .int (0 - 0 - 1), .bl (decide (V.int 0 = V.int 1)), .str (Str.ofString (toString (0 : Int)))]) r0 r1
      refine ⟨l, _, _, _, rfl, rfl, SqL.of (sb1 _ _ (F.ne hl) upd_same), hy, k y _ (.any (by omega) ?_) F1 ((Same.new hl).b.trans sb1)⟩
      simp only [List.mem_cons, List.not_mem_nil, or_false] at my
      rcases my with rfl | rfl | rfl | rfl | rfl
      · exact .int _
      · exact .int _
      · exact .int _
      · exact .bl _
      · exact .str _ ⟨by decide +kernel, by decide +kernel⟩
theorem S3s.cut {H : Hp} {j : Nat} {xs : List V} {lo hi : Option Int} (h : ∀ y ∈ xs, S3 H j y) : ∀ y ∈ cutV xs lo hi, S3 H j y := fun y hy => h y (cutV_mem hy)
theorem S3s.app {H : Hp} {j : Nat} {xs ys : List V} (h : ∀ y ∈ xs, S3 H j y) (g : ∀ y ∈ ys, S3 H j y) : ∀ y ∈ xs ++ ys, S3 H j y := fun y hy => (List.mem_append.mp hy).elim (h y) (g y)
theorem S3s.same {H H' : Hp} {j : Nat} {xs : List V} (s : Same H H') (h : ∀ y ∈ xs, S3 H j y) : ∀ y ∈ xs, S3 H' j y := fun y hy => (h y hy).mono fun e => e.same s
theorem S3s.sb {H H' : Hp} {f : Addr} {j : Nat} {xs : List V} (F : Fd H f) (s : SameB f H H') (h : ∀ y ∈ xs, S3 H j y) : ∀ y ∈ xs, S3 H' j y := fun y hy => (h y hy).mono fun e => e.sb F s
theorem S3s.one {H : Hp} {j : Nat} {x : V} (h : S3 H j x) : ∀ y ∈ [x], S3 H j y := fun y hy => by rw [List.mem_singleton.mp hy]; exact h
theorem ifs_tail {G : Prop} {A B : TS} {D : Ends} {σ : L2.St} {R : Hp → Prop} (h : (∀ H2, R H2 → tIfS_k1 A B D σ false H2) → G) (hB : ∀ H2, R H2 → tIfS_k1 A B D σ false H2) : G := h hB
theorem same_updL {H0 G : Hp} {l : Addr} {o : HO} (w : Same H0 G) (hl : H0 l = none) : Same H0 (upd G l o) := fun b u e => by
  rw [upd_ne (ne_of_none e hl)]
  exact w b u e
theorem c_spT (D : Df K mg "_law_spoilt" s_spoilt) (T : Bt K w mg aB) (F_draw : Fnc P w K mg base "_law_draw" ["_law_feed_here", "_law_many"] 1 spDraw) (F_texts : Fnc P w K mg base "_law_text_spoilt" ["_law_feed_here", "_law_text"] 3 spTextS) (F_spoilt : Fnc P w K mg base "_law_spoilt" ["_law_feed_here", "_law_thing"] 4 spSpE) : Fnc P w K mg base "_law_spoilt" ["_law_feed_here", "_law_thing"] 5 spSpT := by
  have sc := sc_spoilt
  refine D.ok sc (fun _ _ _ _ _ _ us hl => by obtain ⟨_, _, rfl⟩ := len2 hl; rfl) (fun vs H Q E h => ?_) (fun f cdv A outer s H vs Q E hr h => ?_)
  · obtain ⟨d, j, x, rfl, _⟩ := h
    rfl
  · obtain ⟨d, j, x, rfl, F, hj, hx, k⟩ := h
    have l16 := line16
    refine ⟨_, (@pss_cons _ _ _ _ _ (@ps_if _ _ _ _ _ _ _ _ (@pt_truth _ _ _ (@pe_callB _ _ _ _ _ _ _ _ _ (@call_isK _ (K) rfl) (by rfl) T.isinstance b_isinstance (@pa_cons _ _ _ _ _ (pv 1) (@pa_cons _ _ _ _ _ (@pe_bltn _ _ (.ty "str") _ _ rfl T.str b_str rfl (by decide) (by decide)) pa_nil (by rfl)) (by rfl)) (by decide) (by decide) (by rfl) (by rfl)) (fun _ => rfl)) (@pss_one _ _ _ (@ps_ret _ _ _ _ (@pe_fn _ _ _ _ _ _ _ _ _ _ _ F_texts hr (by decide) rfl (@pa_cons _ _ _ _ _ (pv 0) (@pa_cons _ _ _ _ _ (pv 1) pa_nil (by rfl)) (by rfl)) (by decide) (by rfl) (by rfl)))) pss_nil) (@pss_cons _ _ _ _ _ (@ps_if _ _ _ _ _ _ _ _ (@pt_truth _ _ _ (@pe_callB _ _ _ _ _ _ _ _ _ (@call_isK _ (K) rfl) (by rfl) T.isinstance b_isinstance (@pa_cons _ _ _ _ _ (pv 1) (@pa_cons _ _ _ _ _ (@pe_bltn _ _ (.ty "int") _ _ rfl T.int b_int rfl (by decide) (by decide)) pa_nil (by rfl)) (by rfl)) (by decide) (by decide) (by rfl) (by rfl)) (fun _ => rfl)) (@pss_one _ _ _ (@ps_ret _ _ _ _ (@pe_ix _ _ _ _ _ _ _ ix_list (@pe_lst _ _ _ _ (@pa_c _ _ _ _ _ (@pe_op _ _ _ _ _ _ _ _ op_add (pv 1) pe_int) (@pa_c _ _ _ _ _ (@pe_op _ _ _ _ _ _ _ _ op_sub (pv 1) pe_int) (@pa_c _ _ _ _ _ (@pe_op _ _ _ _ _ _ _ _ op_sub (@pe_op _ _ _ _ _ _ _ _ op_sub pe_int (pv 1)) pe_int) (@pa_c _ _ _ _ _ (@pe_cmpR _ _ _ _ _ _ _ _ op_eq (pv 1) pe_int (nomark _)) (@pa_c _ _ _ _ _ (@pe_callTy _ _ _ _ _ _ _ _ _ call_strV (by rfl) T.str b_str (@pa_cons _ _ _ _ _ (pv 1) pa_nil (by rfl)) (by decide) (by decide) (by rfl) (by rfl)) pa_nil (by rfl)) (by rfl)) (by rfl)) (by rfl)) (by rfl))) (@pe_fn _ _ _ _ _ _ _ _ _ _ _ F_draw hr (by decide) rfl (@pa_cons _ _ _ _ _ (pv 0) (@pa_cons _ _ _ _ _ pe_int pa_nil (by rfl)) (by rfl)) (by decide) (by rfl) (by rfl)) (fun _ _ => rfl)))) pss_nil) (@pss_cons _ _ _ _ _ (@ps_if _ _ _ _ _ _ _ _ (@pt_not _ _ _ _ (@pt_truth _ _ _ (@pe_callB _ _ _ _ _ _ _ _ _ (@call_isK _ (K) rfl) (by rfl) T.isinstance b_isinstance (@pa_cons _ _ _ _ _ (pv 1) (@pa_cons _ _ _ _ _ (@pe_bltn _ _ (.ty "tuple") _ _ rfl T.tuple b_tuple rfl (by decide) (by decide)) pa_nil (by rfl)) (by rfl)) (by decide) (by decide) (by rfl) (by rfl)) (fun _ => rfl))) (@pss_one _ _ _ (@ps_ret _ _ _ _ pe_non)) pss_nil) (@pss_cons _ _ _ _ _ (@ps_set _ _ (2) _ _ _ _ sc.nd rfl (Or.inl rfl) (@pe_fn _ _ _ _ _ _ _ _ _ _ _ F_draw hr (by decide) rfl (@pa_cons _ _ _ _ _ (pv 0) (@pa_cons _ _ _ _ _ (@pe_op _ _ _ _ _ _ _ _ op_add (@pe_callB _ _ _ _ _ _ _ _ _ call_len_seq (by rfl) T.len PySem.boot_len (@pa_cons _ _ _ _ _ (pv 1) pa_nil (by rfl)) (by decide) (by decide) (by rfl) (by rfl)) pe_int) pa_nil (by rfl)) (by rfl)) (by decide) (by rfl) (by rfl)) (by rfl) (by first | exact .inl rfl | exact .inr rfl | assumption)) (@pss_cons _ _ _ _ _ (@ps_if _ _ _ _ _ _ _ _ (@PW.pt _ _ _ (@pw_and _ _ _ _ _ _ _ (@pt_cmpR _ _ _ _ _ _ _ _ op_lt (pv 2) (@pe_callB _ _ _ _ _ _ _ _ _ call_len_seq (by rfl) T.len PySem.boot_len (@pa_cons _ _ _ _ _ (pv 1) pa_nil (by rfl)) (by decide) (by decide) (by rfl) (by rfl)) (nomark _)) (@pw_and1 _ _ _ _ (@pt_cmpR _ _ _ _ _ _ _ _ op_gt (@pe_fn _ _ _ _ _ _ _ _ _ _ _ F_draw hr (by decide) rfl (@pa_cons _ _ _ _ _ (pv 0) (@pa_cons _ _ _ _ _ pe_int pa_nil (by rfl)) (by rfl)) (by decide) (by rfl) (by rfl)) pe_int (nomark _))))) (@pss_one _ _ _ (@ps_ret _ _ _ _ (@pe_op _ _ _ _ _ _ _ _ op_catU (@pe_op _ _ _ _ _ _ _ _ op_catU (@pe_slice _ _ _ _ _ _ _ _ _ _ sl_tupU (pv 1) po_none (@po_some _ _ _ (pv 2))) (@pe_tup _ _ _ _ _ (@pa_cons _ _ _ _ _ (@pe_fn _ _ _ _ _ _ _ _ _ _ _ F_spoilt hr (by decide) rfl (@pa_cons _ _ _ _ _ (pv 0) (@pa_cons _ _ _ _ _ (@pe_ix _ _ _ _ _ _ _ ix_tup (pv 1) (pv 2) (fun _ _ => rfl)) pa_nil (by rfl)) (by rfl)) (by decide) (by rfl) (by rfl)) pa_nil (by rfl)))) (@pe_slice _ _ _ _ _ _ _ _ _ _ sl_tupU (pv 1) (@po_some _ _ _ (@pe_op _ _ _ _ _ _ _ _ op_add (pv 2) pe_int)) po_none)))) pss_nil) (@pss_cons _ _ _ _ _ (@ps_set _ _ (3) _ _ _ _ sc.nd rfl (Or.inl rfl) (@pe_lst _ _ _ _ (@pa_cons _ _ _ _ _ (@pe_op _ _ _ _ _ _ _ _ op_catU (@pe_slice _ _ _ _ _ _ _ _ _ _ sl_tupU (pv 1) po_none (@po_some _ _ _ (pv 2))) (@pe_slice _ _ _ _ _ _ _ _ _ _ sl_tupU (pv 1) (@po_some _ _ _ (@pe_op _ _ _ _ _ _ _ _ op_add (pv 2) pe_int)) po_none)) (@pa_cons _ _ _ _ _ (@pe_callTy _ _ _ _ _ _ _ _ _ call_list_of (by rfl) T.list b_list (@pa_cons _ _ _ _ _ (pv 1) pa_nil (by rfl)) (by decide) (by decide) (by rfl) (by rfl)) (@pa_cons _ _ _ _ _ (@pe_op _ _ _ _ _ _ _ _ op_catU (pv 1) (@pe_tup _ _ _ _ _ (@pa_cons _ _ _ _ _ pe_int pa_nil (by rfl)))) pa_nil (by rfl)) (by rfl)) (by rfl))) (by rfl) (by first | exact .inl rfl | exact .inr rfl | assumption)) (@pss_cons _ _ _ _ _ (@ps_expr _ _ _ _ (@pe_bm _ _ _ _ _ _ _ _ _ _ _ _ PySem.F.plainAttrs_list PySem.F.slot_list_append PySem.F.type_list_append mt_append (pv 3) (@pa_cons _ _ _ _ _ (@pe_op _ _ _ _ _ _ _ _ op_catU (@pe_op _ _ _ _ _ _ _ _ op_catU (@pe_slice _ _ _ _ _ _ _ _ _ _ sl_tupU (pv 1) po_none (@po_some _ _ _ (pv 2))) (@pe_slice _ _ _ _ _ _ _ _ _ _ sl_tupU (pv 1) (@po_some _ _ _ (pv 2)) (@po_some _ _ _ (@pe_op _ _ _ _ _ _ _ _ op_add (pv 2) pe_int)))) (@pe_slice _ _ _ _ _ _ _ _ _ _ sl_tupU (pv 1) (@po_some _ _ _ (pv 2)) po_none)) pa_nil (by rfl)) (by rfl) (by rfl) (by rfl) (by rfl) (by rfl)) (by rfl)) (@pss_cons _ _ _ _ _ (@ps_expr _ _ _ _ (@pe_bm _ _ _ _ _ _ _ _ _ _ _ _ PySem.F.plainAttrs_list PySem.F.slot_list_append PySem.F.type_list_append mt_append (pv 3) (@pa_cons _ _ _ _ _ (@pe_op _ _ _ _ _ _ _ _ op_catU (@pe_op _ _ _ _ _ _ _ _ op_catU (@pe_slice _ _ _ _ _ _ _ _ _ _ sl_tupU (pv 1) po_none (@po_some _ _ _ (pv 2))) (@pe_revT _ _ _ _ _ _ _ (@pe_slice _ _ _ _ _ _ _ _ _ _ sl_tupU (pv 1) (@po_some _ _ _ (pv 2)) (@po_some _ _ _ (@pe_op _ _ _ _ _ _ _ _ op_add (pv 2) pe_int))) (@pe_un _ _ _ _ _ _ un_neg pe_int))) (@pe_slice _ _ _ _ _ _ _ _ _ _ sl_tupU (pv 1) (@po_some _ _ _ (@pe_op _ _ _ _ _ _ _ _ op_add (pv 2) pe_int)) po_none)) pa_nil (by rfl)) (by rfl) (by rfl) (by rfl) (by rfl) (by rfl)) (by rfl)) (@pss_one _ _ _ (@ps_ret _ _ _ _ (@pe_ix _ _ _ _ _ _ _ ix_list (pv 3) (@pe_fn _ _ _ _ _ _ _ _ _ _ _ F_draw hr (by decide) rfl (@pa_cons _ _ _ _ _ (pv 0) (@pa_cons _ _ _ _ _ pe_int pa_nil (by rfl)) (by rfl)) (by decide) (by rfl) (by rfl)) (fun _ _ => rfl)))))))))))), ?_⟩
    cases hx with
    | non h => omega
    | @lst t xs h hj1 =>
      refine ⟨_, rfl, _, _, _, _, rfl, .lst h, kit_list, _, rfl, ifsF ?_⟩
      refine ⟨_, rfl, _, _, _, _, rfl, .lst h, kitN_list, _, rfl, ifsF ?_⟩
      refine ⟨_, rfl, _, _, _, _, rfl, .lst h, kitT_list, _, rfl, nkF (ifsT ?_)⟩
      exact k _ _ (.non (by omega)) F (SameB.refl _ _)
    | @tup t xs ht px hl =>
      refine ⟨_, rfl, _, _, _, _, rfl, .tup ht, kit_tup, _, rfl, ifsF ?_⟩
      refine ⟨_, rfl, _, _, _, _, rfl, .tup ht, kitN_tup, _, rfl, ifsF ?_⟩
      refine ⟨_, rfl, _, _, _, _, rfl, .tup ht, kit_tupT, _, rfl, nkT (ifsF ?_)⟩
      have nt : t ≠ d := F.neT ht
      have l12 : xs.length ≤ 12 := by
        have : j = 0 ∨ j = 1 := by omega
        rcases this with rfl | rfl <;> omega
      have up : ∀ n, n ≤ 3 * xs.length ∨ n ≤ xs.length + 1 → n ≤ 4 * 3 ^ (j + 1) := fun n hn => by
        have : j = 0 ∨ j = 1 := by omega
        rcases this with rfl | rfl <;> omega
      refine ⟨_, rfl, _, rfl, t, _, rfl, .inr (SqT.of ht), _, _, rfl, rfl, d, _, rfl, F, by omega, by omega, fun at_ H1 i0 i1 F1 sb1 => ?_⟩
      have ht1 := sb1 _ _ nt ht
      have px1 := S3s.sb F sb1 px
      have cl := fun lo hi => cutV_length xs lo hi
      refine ⟨_, rfl, _, rfl, t, _, rfl, .inr (SqT.of ht1), _, _, rfl, rfl, _, rfl, ?_⟩
      refine' ifs_tail (R := fun H2 => H2 t = some (.tup xs) ∧ (∀ y ∈ xs, S3 H2 j y) ∧ Fd H2 d ∧ SameB d H H2) (fun menu => ?g) ?m
      case g =>
        by_cases hlt : at_ < xs.length
        · rw [decide_eq_true hlt]
          refine andkT ⟨_, rfl, d, _, rfl, F1, by decide, by decide, fun r H2 r0 r1 F2 sb2 => ?_⟩
          have ht2 := sb2 _ _ nt ht1
          have px2 := S3s.sb F1 sb2 px1
          refine ⟨_, _, rfl, rfl, _, rfl, ?_⟩
          by_cases hr : 0 < r
          · rw [decide_eq_true hr]
            refine ifsT ?_
            refine ⟨_, rfl, _, rfl, _, rfl, t, xs, rfl, ht2, fun p1 G1 t1 g1 => ?_⟩
            have F3 := F2.same t1
            obtain ⟨x, hx, mx⟩ := at_mem (xs := xs) i0 (by omega)
            refine ⟨_, rfl, _, rfl, _, rfl, t, _, _, x, rfl, rfl, SqT.of (t1 _ _ ht2), hx, d, j, x, rfl, F3, hj, (S3s.same t1 px2) x mx, fun y G2 sy F4 sb4 => ⟨(by show 1 ≤ sizeLine; decide), fun p2 hp2 => ?_⟩⟩
            have g1' := sb4 _ _ (F3.neT g1) g1
            have ht4 := sb4 _ _ nt (t1 _ _ ht2)
            have px4 := S3s.sb F3 sb4 (S3s.same t1 px2)
            have t2 := Same.new (o := .tup [y]) hp2
            have g2 : (upd G2 p2 (.tup [y])) p2 = some (.tup [y]) := upd_same
            generalize upd G2 p2 (.tup [y]) = G3 at t2 g2 ⊢
            have c1 := cl none (some at_)
            have c2 := cl (some (at_ + 1)) none
            refine ⟨p1, p2, _, _, rfl, rfl, t2 _ _ g1', g2, (by rw [List.length_singleton]; omega), fun p3 G4 t3 g3 => ?_⟩
            refine ⟨_, rfl, _, rfl, _, _, rfl, rfl, _, rfl, t, xs, rfl, t3 _ _ (t2 _ _ ht4), fun p4 G5 t4 g4 => ?_⟩
            refine ⟨p3, p4, _, _, rfl, rfl, t4 _ _ g3, g4, (by rw [List.length_append, List.length_singleton]; omega), fun p5 G6 t5 g5 => ?_⟩
            have tt := t2.trans (t3.trans (t4.trans t5))
            have px6 := S3s.same tt px4
            have pu : ∀ y ∈ xs, S3 G6 (j + 1) y := fun y hy => (px6 y hy).up
            exact k _ _ (.tup g5 (S3s.app (S3s.app (S3s.cut pu) (S3s.same tt (S3s.one sy))) (S3s.cut pu)) (up _ (.inl (by rw [List.length_append, List.length_append, List.length_singleton]; omega)))) (F4.same tt) (sb1.trans (sb2.trans (t1.b.trans (sb4.trans tt.b))))
          · rw [decide_eq_false hr]
            exact menu _ ⟨ht2, px2, F2, sb1.trans sb2⟩
        · rw [decide_eq_false hlt]
          exact andkF (menu _ ⟨ht1, px1, F1, sb1⟩)
      case m =>
        rintro H2 ⟨ht2, px2, F2, sb2⟩
        refine ifsF ?_
        refine ⟨_, rfl, _, rfl, _, rfl, t, xs, rfl, ht2, fun p1 G1 t1 g1 => ?_⟩
        have c1 := cl none (some at_)
        have c2 := cl (some (at_ + 1)) none
        have c3 := cl (some at_) (some (at_ + 1))
        have c4 := cl (some at_) none
        have c5 := cl (some at_) (some (at_ + 2))
        have c6 := cl (some (at_ + 2)) none
        refine ⟨_, rfl, _, rfl, _, _, rfl, rfl, _, rfl, t, xs, rfl, t1 _ _ ht2, fun p2 G2 t2 g2 => ?_⟩
        refine ⟨p1, p2, _, _, rfl, rfl, t2 _ _ g1, g2, (by omega), fun p3 G3 t3 g3 => ?_⟩
        have u3 := t1.trans (t2.trans t3)
        refine ⟨_, rfl, t, xs, rfl, .inr (SqT.of (u3 _ _ ht2)), fun l2 hl2 => ?_⟩
        have t4 := Same.new (o := .lst xs) hl2
        have g4 : (upd G3 l2 (.lst xs)) l2 = some (.lst xs) := upd_same
        generalize upd G3 l2 (.lst xs) = G4 at t4 g4 ⊢
        refine ⟨_, rfl, (by show 1 ≤ sizeLine; decide), fun p5 hp5 => ?_⟩
        have t5 := Same.new (o := .tup [.int 0]) hp5
        have g5 : (upd G4 p5 (.tup [.int 0])) p5 = some (.tup [.int 0]) := upd_same
        generalize upd G4 p5 (.tup [.int 0]) = G5 at t5 g5 ⊢
        have u5 := u3.trans (t4.trans t5)
        refine ⟨t, p5, _, _, rfl, rfl, u5 _ _ ht2, g5, (by rw [List.length_singleton]; omega), fun p6 G6 t6 g6 => ?_⟩
        have u6 := u5.trans t6
        have g3' := t6 _ _ (t5 _ _ (t4 _ _ g3))
        have g4' := t6 _ _ (t5 _ _ g4)
        refine ⟨(by show 3 ≤ sizeLine; decide), fun l hl' => ?_⟩
        have w7 : Same G6 (upd G6 l (.lst [.ref p3, .ref l2, .ref p6])) := Same.new hl'
        have g7 : (upd G6 l (.lst [.ref p3, .ref l2, .ref p6])) l = some (.lst [.ref p3, .ref l2, .ref p6]) := upd_same
        generalize upd G6 l (.lst [.ref p3, .ref l2, .ref p6]) = G7 at w7 g7 ⊢
        have ht6 := u6 _ _ ht2
        refine ⟨_, rfl, .inl ⟨rfl, _, SqL.of g7⟩, ?_⟩
        refine ⟨_, rfl, _, rfl, _, rfl, t, xs, rfl, w7 _ _ ht6, fun q1 J1 s1 h1 => ?_⟩
        have v1 := w7.trans s1
        refine ⟨_, rfl, _, rfl, _, rfl, _, rfl, _, _, rfl, rfl, _, rfl, t, xs, rfl, v1 _ _ ht6, fun q2 J2 s2 h2 => ?_⟩
        have v2 := v1.trans s2
        refine ⟨q1, q2, _, _, rfl, rfl, s2 _ _ h1, h2, (by omega), fun q3 J3 s3 h3 => ?_⟩
        have v3 := v2.trans s3
        refine ⟨_, rfl, _, rfl, _, rfl, t, xs, rfl, v3 _ _ ht6, fun q4 J4 s4 h4 => ?_⟩
        have v4 := v3.trans s4
        refine ⟨q3, q4, _, _, rfl, rfl, s4 _ _ h3, h4, (by rw [List.length_append]; omega), fun q5 J5 s5 h5 => ?_⟩
        have v5 := v4.trans s5
        have g7' := s5 _ _ (s4 _ _ (s3 _ _ (s2 _ _ (s1 _ _ g7))))
        refine ⟨l, _, _, rfl, rfl, g7', (by show 3 < sizeLine; decide), ?_⟩
        have nq : q5 ≠ l := fun e => by rw [e, g7'] at h5; cases h5
        have v6 : Same G6 (upd J5 l (.lst [.ref p3, .ref l2, .ref p6, .ref q5])) := same_updL v5 hl'
        have g8 : (upd J5 l (.lst [.ref p3, .ref l2, .ref p6, .ref q5])) l = some (.lst [.ref p3, .ref l2, .ref p6, .ref q5]) := upd_same
        have h6 : (upd J5 l (.lst [.ref p3, .ref l2, .ref p6, .ref q5])) q5 = some (.tup (cutV xs none (some at_) ++ cutV xs (some at_) (some (at_ + 1)) ++ cutV xs (some at_) none)) := by rw [upd_ne nq]; exact h5
        show tSeq _ _ _ _ (upd J5 l (.lst [.ref p3, .ref l2, .ref p6, .ref q5]))
        generalize upd J5 l (.lst [.ref p3, .ref l2, .ref p6, .ref q5]) = J6 at v6 g8 h6 ⊢
        refine ⟨_, rfl, .inl ⟨rfl, _, SqL.of g8⟩, ?_⟩
        refine ⟨_, rfl, _, rfl, _, rfl, t, xs, rfl, v6 _ _ ht6, fun r1 I1 a1 b1 => ?_⟩
        have y1 := v6.trans a1
        refine ⟨_, rfl, _, rfl, _, rfl, _, rfl, _, _, rfl, rfl, _, rfl, t, xs, rfl, y1 _ _ ht6, fun r2 I2 a2 b2 => ?_⟩
        have y2 := y1.trans a2
        refine ⟨_, rfl, r2, _, rfl, rfl, b2, fun r3 hr3 => ?_⟩
        have a3 := Same.new (o := .tup (cutV xs (some at_) (some (at_ + 2))).reverse) hr3
        have b3 : (upd I2 r3 (.tup (cutV xs (some at_) (some (at_ + 2))).reverse)) r3 = some (.tup (cutV xs (some at_) (some (at_ + 2))).reverse) := upd_same
        generalize upd I2 r3 (.tup (cutV xs (some at_) (some (at_ + 2))).reverse) = I3 at a3 b3 ⊢
        have y3 := y2.trans a3
        refine ⟨r1, r3, _, _, rfl, rfl, a3 _ _ (a2 _ _ b1), b3, (by rw [List.length_reverse]; omega), fun r4 I4 a4 b4 => ?_⟩
        have y4 := y3.trans a4
        refine ⟨_, rfl, _, rfl, _, _, rfl, rfl, _, rfl, t, xs, rfl, y4 _ _ ht6, fun r5 I5 a5 b5 => ?_⟩
        have y5 := y4.trans a5
        refine ⟨r4, r5, _, _, rfl, rfl, a5 _ _ b4, b5, (by rw [List.length_append, List.length_reverse]; omega), fun r6 I6 a6 b6 => ?_⟩
        have y6 := y5.trans a6
        have o6 := fun b u (h : J6 b = some u) => a6 b u (a5 _ _ (a4 _ _ (a3 _ _ (a2 _ _ (a1 _ _ h)))))
        have g8' := o6 _ _ g8
        refine ⟨l, _, _, rfl, rfl, g8', (by show 4 < sizeLine; decide), ?_⟩
        have nr : r6 ≠ l := fun e => by rw [e, g8'] at b6; cases b6
        have v7 : Same G6 (upd I6 l (.lst [.ref p3, .ref l2, .ref p6, .ref q5, .ref r6])) := same_updL y6 hl'
        have g9 : (upd I6 l (.lst [.ref p3, .ref l2, .ref p6, .ref q5, .ref r6])) l = some (.lst [.ref p3, .ref l2, .ref p6, .ref q5, .ref r6]) := upd_same
        have h7 : (upd I6 l (.lst [.ref p3, .ref l2, .ref p6, .ref q5, .ref r6])) q5 = some (.tup (cutV xs none (some at_) ++ cutV xs (some at_) (some (at_ + 1)) ++ cutV xs (some at_) none)) := by rw [upd_ne nq]; exact o6 _ _ h6
        have h8 : (upd I6 l (.lst [.ref p3, .ref l2, .ref p6, .ref q5, .ref r6])) r6 = some (.tup (cutV xs none (some at_) ++ (cutV xs (some at_) (some (at_ + 2))).reverse ++ cutV xs (some (at_ + 2)) none)) := by rw [upd_ne nr]; exact b6
        show tDrop_k1 _ _ _ (upd I6 l (.lst [.ref p3, .ref l2, .ref p6, .ref q5, .ref r6]))
        generalize upd I6 l (.lst [.ref p3, .ref l2, .ref p6, .ref q5, .ref r6]) = Gz at v7 g9 h7 h8 ⊢
        have uz := u6.trans v7
        have Fz := F2.same uz
        have pz : ∀ y ∈ xs, S3 Gz (j + 1) y := fun y hy => (S3s.same uz px2 y hy).up
        refine ⟨_, rfl, _, rfl, d, _, rfl, Fz, by decide, by decide, fun r Hz r0 r1 Fy sby => ?_⟩
        obtain ⟨y, hy, my⟩ := at_mem (xs := [.ref p3, .ref l2, .ref p6, .ref q5, .ref r6]) r0 r1
        refine ⟨l, _, _, _, rfl, rfl, SqL.of (sby _ _ (Fz.nl g9) g9), hy, ?_⟩
        have T : U3 Gz (j + 1) y := by
          simp only [List.mem_cons, List.not_mem_nil, or_false] at my
          rcases my with rfl | rfl | rfl | rfl | rfl
          · exact .tup (v7 _ _ g3') (S3s.app (S3s.cut pz) (S3s.cut pz)) (up _ (.inl (by rw [List.length_append]; omega)))
          · exact .lst (v7 _ _ g4') (by omega)
          · exact .tup (v7 _ _ g6) (S3s.app pz (S3s.one (.zero (by omega)))) (up _ (.inr (by rw [List.length_append, List.length_singleton]; omega)))
          · exact .tup h7 (S3s.app (S3s.app (S3s.cut pz) (S3s.cut pz)) (S3s.cut pz)) (up _ (.inl (by rw [List.length_append, List.length_append]; omega)))
          · exact .tup h8 (S3s.app (S3s.app (S3s.cut pz) fun y hy => S3s.cut pz y (List.mem_reverse.mp hy)) (S3s.cut pz)) (up _ (.inl (by rw [List.length_append, List.length_append, List.length_reverse]; omega)))
        exact k y Hz (T.sb Fz sby) Fy (sb2.trans (uz.b.trans sby))
theorem c_spoilt (D : Df K mg "_law_spoilt" s_spoilt) (T : Bt K w mg aB) (F_draw : Fnc P w K mg base "_law_draw" ["_law_feed_here", "_law_many"] 1 spDraw) (F_texts : Fnc P w K mg base "_law_text_spoilt" ["_law_feed_here", "_law_text"] 3 spTextS) : Fnc P w K mg base "_law_spoilt" ["_law_feed_here", "_law_thing"] 5 spSpT := c_spT D T F_draw F_texts (c_spE D T F_draw F_texts (D.never (fun _ _ _ _ _ _ us hl => by obtain ⟨_, _, rfl⟩ := len2 hl; rfl)))
end
end Kx
set_option Elab.async false
set_option linter.all false
set_option maxRecDepth 100000
set_option maxHeartbeats 0
namespace Kx
open PySem PySem.Spec PyProof.Rows L2 Wd
noncomputable def spLaw (K : PySem.W.Frag) : Sp := fun vs H Q _ => ∃ (a : Addr) (ns : List Int), vs = [.ref a] ∧ SqL K H a (ns.map V.int) ∧ ns.length ≤ 63 ∧ ∀ H', Q (.bl true) H'
section
variable {P : Program} {w : World} {K : PySem.W.Frag} {mg : Str → Option Value} {base : Heap} {aB : Addr}
noncomputable abbrev s_law : Stmt := top 47
theorem sc_law : FnScope ["_law_script", "_law_feed_here", "_law_k", "_law_many", "_law_one", "_law_by", "_law_other", "_law_turn", "_law_at", "_law_due_here", "_law_told_here", "_law_good", "_law_things", "_law_bent_here", "_law_thing"] ["_law_script"] (defScope s_law) := ⟨rfl, rfl, rfl, by decide +kernel, rfl, by decide +kernel, by decide +kernel⟩
theorem seq_by {t u : TS} {D : Ends} {σ : L2.St} {H : Hp} (R : L2.St → Hp → Prop) (h1 : ∀ D' : Ends, (∀ σ2 H2, R σ2 H2 → D'.nx σ2 H2) → t D' σ H) (h2 : ∀ σ2 H2, R σ2 H2 → u D σ2 H2) : tSeq t u D σ H := h1 _ h2
theorem asg_go {nx : L2.St → Hp → Prop} {rt : VK} {bk ct : L2.St → Hp → Prop} {i : Nat} {σ : L2.St} {x : V} {H : Hp} (h : nx (σ.set i (some x)) H) : tAsg_k1 (gName i) ⟨nx, rt, bk, ct⟩ σ x H := h
theorem ifk_c {a b : V} {σ : L2.St} {Q : VK} {H : Hp} {c : Bool} (h : Q (if c = true then a else b) H) : tIf_k1 (tC a) (tC b) σ Q c H := by
  cases c with
  | true => exact iteT h
  | false => exact iteF h
noncomputable def Sx (z : V) : Prop := ∃ s : Str, z = .str s ∧ s.length ≤ 100 ∧ (PyData.str s).canLay0 = true
theorem Sx.s3 {H : Hp} {j : Nat} {z : V} (h : Sx z) : S3 H j z := by
  obtain ⟨s, rfl, h1, h2⟩ := h
  exact .str s (by omega) h2
theorem Sx.tx {w : List L} (h : w.length ≤ 100) : Sx (tx w) := ⟨_, rfl, by rw [toS_length]; exact h, lay_toS w⟩
theorem sx_al : Sx (.str "alike") := ⟨_, rfl, by decide +kernel, by decide +kernel⟩
theorem sx_un : Sx (.str "unlike") := ⟨_, rfl, by decide +kernel, by decide +kernel⟩
theorem Sx.lm {u : List L} {a : Str} (h : LMof u a) (hu : u.length ≤ 100) : Sx (.str a) := by
  obtain ⟨w, rfl, hw⟩ := h.word
  exact Sx.tx (Nat.le_trans hw hu)
noncomputable def Gd3 (H : Hp) (y : V) : Prop := ∃ p xs, y = .ref p ∧ H p = some (.tup xs) ∧ (∀ z ∈ xs, Sx z) ∧ xs.length ≤ 4
theorem Gd3.same {H H' : Hp} {y : V} (s : Same H H') (h : Gd3 H y) : Gd3 H' y := by
  obtain ⟨p, xs, e, h1, h2, h3⟩ := h
  exact ⟨p, xs, e, s _ _ h1, h2, h3⟩
theorem Gd3.sb {H H' : Hp} {f : Addr} {y : V} (F : Fd H f) (s : SameB f H H') (h : Gd3 H y) : Gd3 H' y := by
  obtain ⟨p, xs, e, h1, h2, h3⟩ := h
  exact ⟨p, xs, e, s _ _ (F.neT h1) h1, h2, h3⟩
theorem Gd3.u3 {H : Hp} {y : V} (h : Gd3 H y) : U3 H 0 y := by
  obtain ⟨p, xs, rfl, h1, h2, h3⟩ := h
  exact .tup h1 (fun z hz => (h2 z hz).s3) h3
theorem all2 {α : Type} {P : α → Prop} {a b : α} (ha : P a) (hb : P b) : ∀ z ∈ [a, b], P z := fun z hz => by
  rcases List.mem_cons.mp hz with rfl | hz
  · exact ha
  · rw [List.mem_singleton.mp hz]; exact hb
theorem all3 {α : Type} {P : α → Prop} {a b c : α} (ha : P a) (hb : P b) (hc : P c) : ∀ z ∈ [a, b, c], P z := fun z hz => by
  rcases List.mem_cons.mp hz with rfl | hz
  · exact ha
  · exact all2 hb hc z hz
theorem Pp.sum {H : Hp} {t : Addr} {u v : List L} {a b : Str} (p : Pp H t u v) (la : LMof u a) (lb : LMof v b) (hu : u.length ≤ 40) (hv : v.length ≤ 40) :
    ∃ x r, H t = some (.tup (V.str (if a = b then "alike" else "unlike") :: x :: r)) ∧ (∀ z ∈ V.str (if a = b then "alike" else "unlike") :: x :: r, Sx z) ∧ (V.str (if a = b then "alike" else "unlike") :: x :: r).length ≤ 4 ∧ out3 u v a b (some (V.str (if a = b then "alike" else "unlike") :: x :: r)) = none := by
  cases p with
  | al y h hl e =>
    have ab : a = b := (la.cj lb).mpr ⟨y, e⟩
    refine ⟨tx y, [], ?_⟩
    rw [if_pos ab]
    exact ⟨h, all2 sx_al (Sx.tx (by omega)), by simp, by rw [out3_al]; exact if_pos e⟩
  | un a' b' h ha hb ne =>
    obtain rfl := la.one ha
    obtain rfl := lb.one hb
    refine ⟨.str a, [.str b], ?_⟩
    rw [if_neg ne]
    refine ⟨h, all3 sx_un (Sx.lm la (by omega)) (Sx.lm lb (by omega)), by simp, ?_⟩
    obtain ⟨w1, rfl, _⟩ := la.word
    obtain ⟨w2, rfl, _⟩ := lb.word
    rw [show V.str (toS w1) = tx w1 from rfl, show V.str (toS w2) = tx w2 from rfl, out3_un, if_neg (fun h => h rfl), if_neg (fun h => h rfl)]
    exact if_neg fun h => ne (V.str.inj h)
theorem c_law {f : Addr} {fd : FuncData} (D : Fun K "law" "law" s_law f fd) (T : Bt K w mg aB) (F_turning : Fnc P w K mg base "turning" ["one", "other"] 4 spTurning) (F_feed : Fnc P w K mg base "_law_feed" ["_law_script"] 1 (spFeed K)) (F_draw : Fnc P w K mg base "_law_draw" ["_law_feed_here", "_law_many"] 1 spDraw) (F_lback : Fnc P w K mg base "_law_back" ["_law_word"] 1 spBk)
    (F_some : Fnc P w K mg base "_law_some" ["_law_feed_here", "_law_many", "_law_most"] 2 spSome) (F_drawn : Fnc P w K mg base "_law_drawn" ["_law_feed_here", "_law_many", "_law_most"] 3 spDrawnN) (F_ll : Fnc P w K mg base "_law_least" ["_law_word"] 3 spLL) (F_due : Fnc P w K mg base "_law_due" ["_law_one", "_law_other", "_law_thing"] 4 spTold3) (F_told : Fnc P w K mg base "_law_told" ["_law_one", "_law_other", "_law_thing"] 6 spTold3) (F_bent : Fnc P w K mg base "_law_bent" ["_law_feed_here", "_law_thing"] 2 spBent3) (F_spoilt : Fnc P w K mg base "_law_spoilt" ["_law_feed_here", "_law_thing"] 5 spSpT) : FnOk P w K mg base CX0 9 f fd ["_law_script"] (spLaw K) := by
  have sc := sc_law
  refine D.ok sc (fun vs H Q E h => ?_) (fun cdv A outer s H vs Q E hr h => ?_)
  · obtain ⟨a, ns, rfl, _⟩ := h
    rfl
  · obtain ⟨a, ns, rfl, hS, hlen, k⟩ := h
    have l16 := line16
    refine ⟨_, (@pss_cons _ _ _ _ _ (@ps_set _ _ (1) _ _ _ _ sc.nd rfl (Or.inr rfl) (@pe_fn _ _ _ _ _ _ _ _ _ _ _ F_feed hr (by decide) rfl (@pa_cons _ _ _ _ _ (pv 0) pa_nil (by rfl)) (by decide) (by rfl) (by rfl)) (by rfl) (by first | exact .inl rfl | exact .inr rfl | assumption)) (@pss_cons _ _ _ _ _ (@ps_for _ _ _ _ _ _ _ _ PassesOwn.never rfl (@pi_range1 _ _ _ _ _ _ rfl T.range (@pa_cons _ _ _ _ _ pe_int pa_nil (by rfl)) (by rfl)) (@pg_name _ _ (2) _ sc.nd rfl (Or.inl rfl) (by first | exact .inl rfl | exact .inr rfl | assumption)) (@pss_cons _ _ _ _ _ (@ps_set _ _ (3) _ _ _ _ sc.nd rfl (Or.inl rfl) (@pe_op _ _ _ _ _ _ _ _ op_add pe_int (@pe_fn _ _ _ _ _ _ _ _ _ _ _ F_draw hr (by decide) rfl (@pa_cons _ _ _ _ _ (pv 1) (@pa_cons _ _ _ _ _ pe_int pa_nil (by rfl)) (by rfl)) (by decide) (by rfl) (by rfl))) (by rfl) (by first | exact .inl rfl | exact .inr rfl | assumption)) (@pss_cons _ _ _ _ _ (@ps_set _ _ (4) _ _ _ _ sc.nd rfl (Or.inl rfl) (@pe_fn _ _ _ _ _ _ _ _ _ _ _ F_drawn hr (by decide) rfl (@pa_cons _ _ _ _ _ (pv 1) (@pa_cons _ _ _ _ _ (pv 3) (@pa_cons _ _ _ _ _ pe_int pa_nil (by rfl)) (by rfl)) (by rfl)) (by decide) (by rfl) (by rfl)) (by rfl) (by first | exact .inl rfl | exact .inr rfl | assumption)) (@pss_cons _ _ _ _ _ (@ps_set _ _ (5) _ _ _ _ sc.nd rfl (Or.inl rfl) (@pe_fn _ _ _ _ _ _ _ _ _ _ _ F_some hr (by decide) rfl (@pa_cons _ _ _ _ _ (pv 1) (@pa_cons _ _ _ _ _ (pv 3) (@pa_cons _ _ _ _ _ pe_int pa_nil (by rfl)) (by rfl)) (by rfl)) (by decide) (by rfl) (by rfl)) (by rfl) (by first | exact .inl rfl | exact .inr rfl | assumption)) (@pss_cons _ _ _ _ _ (@ps_set _ _ (6) _ _ _ _ sc.nd rfl (Or.inl rfl) (@pe_op _ _ _ _ _ _ _ _ op_add_str (@pe_op _ _ _ _ _ _ _ _ op_add_str (pv 5) (pv 4)) (@pe_fn _ _ _ _ _ _ _ _ _ _ _ F_lback hr (by decide) rfl (@pa_cons _ _ _ _ _ (pv 5) pa_nil (by rfl)) (by decide) (by rfl) (by rfl))) (by rfl) (by first | exact .inl rfl | exact .inr rfl | assumption)) (@pss_cons _ _ _ _ _ (@ps_if _ _ _ _ _ _ _ _ (@pt_cmpR _ _ _ _ _ _ _ _ op_eq (@pe_fn _ _ _ _ _ _ _ _ _ _ _ F_draw hr (by decide) rfl (@pa_cons _ _ _ _ _ (pv 1) (@pa_cons _ _ _ _ _ pe_int pa_nil (by rfl)) (by rfl)) (by decide) (by rfl) (by rfl)) pe_int (nomark _)) (@pss_cons _ _ _ _ _ (@ps_set _ _ (7) _ _ _ _ sc.nd rfl (Or.inl rfl) (@pe_fn _ _ _ _ _ _ _ _ _ _ _ F_ll hr (by decide) rfl (@pa_cons _ _ _ _ _ (pv 4) pa_nil (by rfl)) (by decide) (by rfl) (by rfl)) (by rfl) (by first | exact .inl rfl | exact .inr rfl | assumption)) (@pss_cons _ _ _ _ _ (@ps_set _ _ (8) _ _ _ _ sc.nd rfl (Or.inl rfl) (@pe_fn _ _ _ _ _ _ _ _ _ _ _ F_draw hr (by decide) rfl (@pa_cons _ _ _ _ _ (pv 1) (@pa_cons _ _ _ _ _ (@pe_op _ _ _ _ _ _ _ _ op_add (@pe_callB _ _ _ _ _ _ _ _ _ call_len_str (by rfl) T.len PySem.boot_len (@pa_cons _ _ _ _ _ (pv 7) pa_nil (by rfl)) (by decide) (by decide) (by rfl) (by rfl)) pe_int) pa_nil (by rfl)) (by rfl)) (by decide) (by rfl) (by rfl)) (by rfl) (by first | exact .inl rfl | exact .inr rfl | assumption)) (@pss_one _ _ _ (@ps_set _ _ (6) _ _ _ _ sc.nd rfl (Or.inl rfl) (@pe_op _ _ _ _ _ _ _ _ op_add_str (@pe_op _ _ _ _ _ _ _ _ op_add_str (@pe_op _ _ _ _ _ _ _ _ op_add_str (pv 5) (@pe_slice _ _ _ _ _ _ _ _ _ _ sl_str (pv 7) (@po_some _ _ _ (pv 8)) po_none)) (@pe_slice _ _ _ _ _ _ _ _ _ _ sl_str (pv 7) po_none (@po_some _ _ _ (pv 8)))) (@pe_fn _ _ _ _ _ _ _ _ _ _ _ F_lback hr (by decide) rfl (@pa_cons _ _ _ _ _ (pv 5) pa_nil (by rfl)) (by decide) (by rfl) (by rfl))) (by rfl) (by first | exact .inl rfl | exact .inr rfl | assumption))))) pss_nil) (@pss_cons _ _ _ _ _ (@ps_if _ _ _ _ _ _ _ _ (@pt_cmpR _ _ _ _ _ _ _ _ op_eq (@pe_fn _ _ _ _ _ _ _ _ _ _ _ F_draw hr (by decide) rfl (@pa_cons _ _ _ _ _ (pv 1) (@pa_cons _ _ _ _ _ pe_int pa_nil (by rfl)) (by rfl)) (by decide) (by rfl) (by rfl)) pe_int (nomark _)) (@pss_one _ _ _ (@ps_set _ _ (6) _ _ _ _ sc.nd rfl (Or.inl rfl) (@pe_fn _ _ _ _ _ _ _ _ _ _ _ F_drawn hr (by decide) rfl (@pa_cons _ _ _ _ _ (pv 1) (@pa_cons _ _ _ _ _ (pv 3) (@pa_cons _ _ _ _ _ pe_int pa_nil (by rfl)) (by rfl)) (by rfl)) (by decide) (by rfl) (by rfl)) (by rfl) (by first | exact .inl rfl | exact .inr rfl | assumption))) pss_nil) (@pss_cons _ _ _ _ _ (@ps_set _ _ (9) _ _ _ _ sc.nd rfl (Or.inl rfl) (@pe_ifExp _ _ _ _ _ _ _ _ (@pt_cmpR _ _ _ _ _ _ _ _ op_eq (@pe_fn _ _ _ _ _ _ _ _ _ _ _ F_ll hr (by decide) rfl (@pa_cons _ _ _ _ _ (pv 4) pa_nil (by rfl)) (by decide) (by rfl) (by rfl)) (@pe_fn _ _ _ _ _ _ _ _ _ _ _ F_ll hr (by decide) rfl (@pa_cons _ _ _ _ _ (pv 6) pa_nil (by rfl)) (by decide) (by rfl) (by rfl)) (nomark _)) pe_str pe_str) (by rfl) (by first | exact .inl rfl | exact .inr rfl | assumption)) (@pss_cons _ _ _ _ _ (@ps_set _ _ (10) _ _ _ _ sc.nd rfl (Or.inl rfl) (@pe_fn _ _ _ _ _ _ _ _ _ _ _ F_turning hr (by decide) rfl (@pa_cons _ _ _ _ _ (pv 4) (@pa_cons _ _ _ _ _ (pv 6) pa_nil (by rfl)) (by rfl)) (by decide) (by rfl) (by rfl)) (by rfl) (by first | exact .inl rfl | exact .inr rfl | assumption)) (@pss_cons _ _ _ _ _ (@ps_if _ _ _ _ _ _ _ _ (@PW.pt _ _ _ (@pw_or _ _ _ _ _ _ _ (@pt_not _ _ _ _ (@pt_truth _ _ _ (@pe_callB _ _ _ _ _ _ _ _ _ (@call_isK _ (K) rfl) (by rfl) T.isinstance b_isinstance (@pa_cons _ _ _ _ _ (pv 10) (@pa_cons _ _ _ _ _ (@pe_bltn _ _ (.ty "tuple") _ _ rfl T.tuple b_tuple rfl (by decide) (by decide)) pa_nil (by rfl)) (by rfl)) (by decide) (by decide) (by rfl) (by rfl)) (fun _ => rfl))) (@pw_or _ _ _ _ _ _ _ (@pt_cmpR _ _ _ _ _ _ _ _ op_ne (@pe_ix _ _ _ _ _ _ _ ix_tup (pv 10) pe_int (fun _ _ => rfl)) (pv 9) (nomark _)) (@pw_or1 _ _ _ _ (@pt_cmpR _ _ _ _ _ _ _ _ op_notB (@pe_fn _ _ _ _ _ _ _ _ _ _ _ F_due hr (by decide) rfl (@pa_cons _ _ _ _ _ (pv 4) (@pa_cons _ _ _ _ _ (pv 6) (@pa_cons _ _ _ _ _ (pv 10) pa_nil (by rfl)) (by rfl)) (by rfl)) (by decide) (by rfl) (by rfl)) pe_bl (nomark _)))))) (@pss_one _ _ _ (@ps_ret _ _ _ _ pe_bl)) pss_nil) (@pss_cons _ _ _ _ _ (@ps_set _ _ (11) _ _ _ _ sc.nd rfl (Or.inr rfl) (@pe_lst _ _ _ _ (@pa_cons _ _ _ _ _ (@pe_tup _ _ _ _ _ (@pa_cons _ _ _ _ _ pe_str (@pa_cons _ _ _ _ _ (pv 5) pa_nil (by rfl)) (by rfl))) (@pa_cons _ _ _ _ _ (@pe_tup _ _ _ _ _ (@pa_cons _ _ _ _ _ pe_str (@pa_cons _ _ _ _ _ (@pe_fn _ _ _ _ _ _ _ _ _ _ _ F_ll hr (by decide) rfl (@pa_cons _ _ _ _ _ (pv 4) pa_nil (by rfl)) (by decide) (by rfl) (by rfl)) (@pa_cons _ _ _ _ _ (@pe_fn _ _ _ _ _ _ _ _ _ _ _ F_ll hr (by decide) rfl (@pa_cons _ _ _ _ _ (pv 6) pa_nil (by rfl)) (by decide) (by rfl) (by rfl)) pa_nil (by rfl)) (by rfl)) (by rfl))) (@pa_cons _ _ _ _ _ (pv 10) pa_nil (by rfl)) (by rfl)) (by rfl))) (by rfl) (by first | exact .inl rfl | exact .inr rfl | assumption)) (@pss_cons _ _ _ _ _ (@ps_set _ _ (12) _ _ _ _ sc.nd rfl (Or.inl rfl) (@pe_op _ _ _ _ _ _ _ _ op_cat (@pe_lst _ _ _ _ (@pa_c _ _ _ _ _ pe_non (@pa_c _ _ _ _ _ (@pe_tup _ _ _ _ _ pa_nil) (@pa_c _ _ _ _ _ pe_str (@pa_c _ _ _ _ _ (@pe_tup _ _ _ _ _ (@pa_cons _ _ _ _ _ pe_str pa_nil (by rfl))) (@pa_c _ _ _ _ _ (@pe_lst _ _ _ _ (@pa_cons _ _ _ _ _ pe_str (@pa_cons _ _ _ _ _ (pv 5) pa_nil (by rfl)) (by rfl))) (@pa_c _ _ _ _ _ (@pe_tup _ _ _ _ _ (@pa_cons _ _ _ _ _ pe_str (@pa_cons _ _ _ _ _ (pv 5) (@pa_cons _ _ _ _ _ (pv 5) pa_nil (by rfl)) (by rfl)) (by rfl))) (@pa_c _ _ _ _ _ (@pe_tup _ _ _ _ _ (@pa_cons _ _ _ _ _ pe_str (@pa_cons _ _ _ _ _ (pv 5) pa_nil (by rfl)) (by rfl))) (@pa_c _ _ _ _ _ (@pe_tup _ _ _ _ _ (@pa_cons _ _ _ _ _ pe_int (@pa_cons _ _ _ _ _ (pv 5) pa_nil (by rfl)) (by rfl))) pa_nil (by rfl)) (by rfl)) (by rfl)) (by rfl)) (by rfl)) (by rfl)) (by rfl)) (by rfl))) (pv 11)) (by rfl) (by first | exact .inl rfl | exact .inr rfl | assumption)) (@pss_cons _ _ _ _ _ (@ps_set _ _ (12) _ _ _ _ sc.nd rfl (Or.inl rfl) (@pe_op _ _ _ _ _ _ _ _ op_cat (pv 12) (@pe_comp _ _ _ _ _ _ _ (["_law_j", "_law_feed_here", "_law_good"]) (["_law_j"]) ([1, 11]) _ _ _ _ (@blk_of _ _ _ _ _ _ rfl (by kernel_rfl)) rfl (@pi_range1 _ _ _ _ _ _ rfl T.range (@pa_cons _ _ _ _ _ pe_int pa_nil (by rfl)) (by rfl)) (fun _ _ _ _ => @pg_name _ _ (0) _ (show (["_law_j", "_law_feed_here", "_law_good"] : List Str).Nodup from by decide +kernel) rfl (Or.inl rfl) (by first | exact .inl rfl | exact .inr rfl | assumption)) (fun _ _ _ _ => pifs_nil) (fun _ _ _ _ => by (exact (@pe_fn _ _ _ _ _ _ _ _ _ _ _ F_bent hr (by decide) rfl (@pa_cons _ _ _ _ _ (pv 1) (@pa_cons _ _ _ _ _ (@pe_ix _ _ _ _ _ _ _ (@ix_listK _ (K) rfl) (pv 2) (@pe_fn _ _ _ _ _ _ _ _ _ _ _ F_draw hr (by decide) rfl (@pa_cons _ _ _ _ _ (pv 1) (@pa_cons _ _ _ _ _ pe_int pa_nil (by rfl)) (by rfl)) (by decide) (by rfl) (by rfl)) (fun _ _ => rfl)) pa_nil (by rfl)) (by rfl)) (by decide) (by rfl) (by rfl)))) (by intro _ ; rfl))) (by rfl) (by first | exact .inl rfl | exact .inr rfl | assumption)) (@pss_cons _ _ _ _ _ (@ps_setC _ (13) _ _ _ _ _ _ _ _ _ (["_law_j", "_law_feed_here", "_law_good"]) (["_law_j"]) ([1, 11]) _ _ _ _ sc.nd rfl (Or.inl rfl) (@blk_of _ _ _ _ _ _ rfl (by kernel_rfl)) rfl (@pi_range1 _ _ _ _ _ _ rfl T.range (@pa_cons _ _ _ _ _ pe_int pa_nil (by rfl)) (by rfl)) (fun _ _ _ _ => @pg_name _ _ (0) _ (show (["_law_j", "_law_feed_here", "_law_good"] : List Str).Nodup from by decide +kernel) rfl (Or.inl rfl) (by first | exact .inl rfl | exact .inr rfl | assumption)) (fun _ _ _ _ => pifs_nil) (fun _ _ _ _ => by (exact (@pe_fn _ _ _ _ _ _ _ _ _ _ _ F_spoilt hr (by decide) rfl (@pa_cons _ _ _ _ _ (pv 1) (@pa_cons _ _ _ _ _ (@pe_ix _ _ _ _ _ _ _ (@ix_listK _ (K) rfl) (pv 2) (@pe_fn _ _ _ _ _ _ _ _ _ _ _ F_draw hr (by decide) rfl (@pa_cons _ _ _ _ _ (pv 1) (@pa_cons _ _ _ _ _ pe_int pa_nil (by rfl)) (by rfl)) (by decide) (by rfl) (by rfl)) (fun _ _ => rfl)) pa_nil (by rfl)) (by rfl)) (by decide) (by rfl) (by rfl)))) (by intro _ ; rfl) (by rfl) (by first | exact .inl rfl | exact .inr rfl | assumption)) (@pss_one _ _ _ (@ps_for _ _ _ _ _ _ _ _ PassesOwn.never rfl (@pi_list _ _ _ _ (@pe_op _ _ _ _ _ _ _ _ op_cat (@pe_op _ _ _ _ _ _ _ _ op_cat (pv 12) (pv 13)) (@pe_comp _ _ _ _ _ _ _ (["_law_one", "_law_feed_here"]) (["_law_one"]) ([1]) _ _ _ _ (@blk_of _ _ _ _ _ _ rfl (by kernel_rfl)) rfl (@pi_list _ _ _ _ (pv 13)) (fun _ _ _ _ => @pg_name _ _ (0) _ (show (["_law_one", "_law_feed_here"] : List Str).Nodup from by decide +kernel) rfl (Or.inl rfl) (by first | exact .inl rfl | exact .inr rfl | assumption)) (fun _ _ _ _ => pifs_nil) (fun _ _ _ _ => by (exact (@pe_fn _ _ _ _ _ _ _ _ _ _ _ F_spoilt hr (by decide) rfl (@pa_cons _ _ _ _ _ (pv 1) (@pa_cons _ _ _ _ _ (pv 0) pa_nil (by rfl)) (by rfl)) (by decide) (by rfl) (by rfl)))) (by intro _ ; rfl)))) (@pg_name _ _ (14) _ sc.nd rfl (Or.inl rfl) (by first | exact .inl rfl | exact .inr rfl | assumption)) (@pss_one _ _ _ (@ps_if _ _ _ _ _ _ _ _ (@pt_cmpR _ _ _ _ _ _ _ _ op_ne (@pe_callB _ _ _ _ _ _ _ _ _ (@call_repr_V _ (by exact hr.gd) (by exact hr.units)) (by rfl) T.repr b_repr (@pa_cons _ _ _ _ _ (@pe_fn _ _ _ _ _ _ _ _ _ _ _ F_told hr (by decide) rfl (@pa_cons _ _ _ _ _ (pv 4) (@pa_cons _ _ _ _ _ (pv 6) (@pa_cons _ _ _ _ _ (pv 14) pa_nil (by rfl)) (by rfl)) (by rfl)) (by decide) (by rfl) (by rfl)) pa_nil (by rfl)) (by decide) (by decide) (by rfl) (by rfl)) (@pe_callB _ _ _ _ _ _ _ _ _ (@call_repr_V _ (by exact hr.gd) (by exact hr.units)) (by rfl) T.repr b_repr (@pa_cons _ _ _ _ _ (@pe_fn _ _ _ _ _ _ _ _ _ _ _ F_due hr (by decide) rfl (@pa_cons _ _ _ _ _ (pv 4) (@pa_cons _ _ _ _ _ (pv 6) (@pa_cons _ _ _ _ _ (pv 14) pa_nil (by rfl)) (by rfl)) (by rfl)) (by decide) (by rfl) (by rfl)) pa_nil (by rfl)) (by decide) (by decide) (by rfl) (by rfl)) (nomark _)) (@pss_one _ _ _ (@ps_ret _ _ _ _ pe_bl)) pss_nil)) (by intro _ ; rfl)))))))))))))))) (by intro _ ; rfl)) (@pss_one _ _ _ (@ps_ret _ _ _ _ pe_bl)))), ?_⟩
    refine ⟨_, rfl, a, ns, rfl, hS, hlen, fun d H1 _ F1 _ => ?_⟩
    refine ⟨_, rfl, by decide, by decide, for_range (lo := 0) (n := 4) (fun i σ H' => ∃ (b2 b3 b4 b5 b6 b7 b8 b9 b10 b11 b12 b13 b14 : Option V), σ = [some (.ref a), some (.ref d), b2, b3, b4, b5, b6, b7, b8, b9, b10, b11, b12, b13, b14] ∧ Fd H' d) ⟨none, none, none, none, none, none, none, none, none, none, none, none, none, rfl, F1⟩ ?_ ?_⟩
    · rintro i σ H1 hi ⟨b2, b3, b4, b5, b6, b7, b8, b9, b10, b11, b12, b13, b14, rfl, F1⟩
      refine ⟨_, rfl, d, _, rfl, F1, by decide, by decide, fun m H2 m0 m1 F2 _ => ⟨_, _, rfl, rfl, ?_⟩⟩
      refine ⟨_, rfl, _, rfl, d, _, 20, rfl, F2, by omega, by omega, by decide, by decide, fun u H3 hu F3 _ => ?_⟩
      have hu : u.length ≤ 20 := hu
      refine ⟨_, rfl, _, rfl, d, _, 6, rfl, F3, by omega, by omega, by decide, by decide, fun y H4 hy F4 _ => ?_⟩
      have hy : y.length ≤ 6 := hy
      refine ⟨_, rfl, _, rfl, _, _, rfl, rfl, (by rw [toS_length, toS_length]; omega), _, rfl, y, rfl, by omega, fun H5 s5 => ?_⟩
      refine ⟨_, _, rfl, rfl, (by rw [toS_append, toS_length, toS_length, List.length_append, bk_length]; omega), ?_⟩
      rw [toS_append, toS_append]
      have hv0 : (y ++ u ++ bk y).length ≤ 40 := by rw [List.length_append, List.length_append, bk_length]; omega
      have F5 := F4.same s5
      refine asg_go ?_
      refine seq_by (fun σ2 H2 => ∃ (c7 c8 : Option V) (v : List L), σ2 = [some (.ref a), some (.ref d), some (.int (0 + (i : Int))), some (.int (1 + m)), some (tx u), some (tx y), some (tx v), c7, c8, b9, b10, b11, b12, b13, b14] ∧ v.length ≤ 40 ∧ Fd H2 d) (fun D' nx => ?_) ?_
      · refine ⟨_, rfl, d, _, rfl, F5, by decide, by decide, fun r H6 r0 r1 F6 _ => ⟨rfl, _, rfl, ?_⟩⟩
        by_cases h : r = 0
        · rw [decide_eq_true (congrArg V.int h)]
          refine ifsT ?_
          refine ⟨_, rfl, u, rfl, by omega, fun tn H7 lt s7 => ?_⟩
          obtain ⟨w', rfl, hw'⟩ := lt.word
          have wl : (toS w').length ≤ sizeLine := by rw [toS_length]; omega
          refine ⟨_, rfl, _, rfl, toS w', rfl, wl, _, _, rfl, rfl, d, _, rfl, F6.same s7, (by rw [toS_length]; omega), (by rw [toS_length]; omega), fun q H8 q0 q1 F8 _ => ?_⟩
          have e1 : Txt.slice (toS w') (some q) none = toS (w'.drop q.toNat) := by rw [slice_toS, cut_from _ q0]
          have e2 : Txt.slice (toS w') none (some q) = toS (w'.take q.toNat) := by rw [slice_toS, cut_to _ q0]
          have el : (w'.drop q.toNat).length + (w'.take q.toNat).length ≤ 20 := by rw [List.length_drop, List.length_take]; omega
          refine ⟨_, rfl, _, rfl, _, rfl, _, rfl, toS w', rfl, wl, ?_⟩
          rw [e1]
          refine ⟨_, _, rfl, rfl, (by rw [toS_length, toS_length]; omega), ?_⟩
          rw [toS_append]
          refine ⟨_, rfl, _, rfl, _, rfl, toS w', rfl, wl, ?_⟩
          rw [e2]
          refine ⟨_, _, rfl, rfl, (by rw [toS_length, toS_length, List.length_append]; omega), ?_⟩
          rw [toS_append]
          refine ⟨_, rfl, y, rfl, by omega, fun H9 s9 => ⟨_, _, rfl, rfl, (by rw [toS_length, toS_length, List.length_append, List.length_append, bk_length]; omega), ?_⟩⟩
          rw [toS_append]
          exact nx _ _ ⟨_, _, _, rfl, (by rw [List.length_append, List.length_append, List.length_append, bk_length]; omega), F8.same s9⟩
        · rw [decide_eq_false fun e => h (V.int.inj e)]
          exact ifsF (nx _ _ ⟨_, _, _, rfl, hv0, F6⟩)
      rintro σ H6 ⟨c7, c8, v0, rfl, hv0', F6⟩
      refine seq_by (fun σ2 H2 => ∃ (v : List L), σ2 = [some (.ref a), some (.ref d), some (.int (0 + (i : Int))), some (.int (1 + m)), some (tx u), some (tx y), some (tx v), c7, c8, b9, b10, b11, b12, b13, b14] ∧ v.length ≤ 40 ∧ Fd H2 d) (fun D' nx => ?_) ?_
      · refine ⟨_, rfl, d, _, rfl, F6, by decide, by decide, fun r H7 r0 r1 F7 _ => ⟨rfl, _, rfl, ?_⟩⟩
        by_cases h : r = 0
        · rw [decide_eq_true (congrArg V.int h)]
          refine ifsT ⟨_, rfl, _, rfl, d, _, 20, rfl, F7, by omega, by omega, by decide, by decide, fun v H8 hv F8 _ => ?_⟩
          exact nx _ _ ⟨v, rfl, (by have hv : v.length ≤ 20 := hv; omega), F8⟩
        · rw [decide_eq_false fun e => h (V.int.inj e)]
          exact ifsF (nx _ _ ⟨_, rfl, hv0', F7⟩)
      rintro σ H7 ⟨v, rfl, hv, F7⟩
      refine ⟨_, rfl, u, rfl, by omega, fun la H8 hla s8 => ⟨_, rfl, v, rfl, by omega, fun lb H9 hlb s9 => ⟨rfl, _, rfl, ifk_c ?_⟩⟩⟩
      have F9 := F7.same (s8.trans s9)
      refine ⟨_, rfl, _, rfl, u, v, rfl, by omega, by omega, fun t H10 s10 P => ?_⟩
      have F10 := F9.same s10
      obtain ⟨x1, xr, ht, sx, hxl, eo⟩ := P.sum hla hlb (by omega) (by omega)
      have edue : (if decide (V.str la = V.str lb) = true then V.str "alike" else V.str "unlike") = V.str (if la = lb then "alike" else "unlike") := by
        by_cases e : la = lb
        · rw [decide_eq_true (congrArg V.str e), if_pos e, if_pos rfl]
        · rw [decide_eq_false fun h => e (V.str.inj h), if_neg e]; rfl
      rw [edue]
      generalize (if la = lb then "alike" else "unlike" : Str) = x0 at ht sx hxl eo ⊢
      have exs : ∀ z ∈ V.str x0 :: x1 :: xr, E3 H10 z := fun z hz => (sx z hz).s3.e (j := 0) (by decide)
      refine asg_go ?_
      refine ⟨_, rfl, _, _, _, _, rfl, .tup ht, kit_tupT, _, rfl, nkT (orkF ?_)⟩
      refine ⟨_, rfl, t, _, _, _, rfl, rfl, SqT.of ht, at0 _ _, _, rfl, rfl, _, rfl, ?_⟩
      rw [decide_eq_true (show V.str x0 = V.str x0 from rfl)]
      refine orkF ?_
      refine ⟨_, rfl, _, rfl, _, rfl, u, v, la, lb, .ref t, _, rfl, by omega, by omega, hla, hlb, .tup ht exs (by omega), fun r H11 _ s11 hr => ?_⟩
      obtain rfl := hr eo
      refine ⟨true, true, rfl, rfl, _, rfl, ifsF ?_⟩
      have F11 := F10.same s11
      have ht := s11 _ _ ht
      -- the good ones
      refine ⟨_, rfl, (by show 2 ≤ sizeLine; decide), fun t1 ht1 => ?_⟩
      have s12 : Same H11 (upd H11 t1 (.tup [.str "alike", tx y])) := Same.new ht1
      have g1 : (upd H11 t1 (.tup [.str "alike", tx y])) t1 = some (.tup [.str "alike", tx y]) := upd_same
      generalize upd H11 t1 (.tup [.str "alike", tx y]) = H12 at s12 g1 ⊢
      refine ⟨_, rfl, u, rfl, by omega, fun la' H13 hla' s13 => ⟨_, rfl, v, rfl, by omega, fun lb' H14 hlb' s14 => ⟨(by show 3 ≤ sizeLine; decide), fun t2 ht2 => ?_⟩⟩⟩
      obtain rfl := hla.one hla'
      obtain rfl := hlb.one hlb'
      have s15 : Same H14 (upd H14 t2 (.tup [.str "unlike", .str la, .str lb])) := Same.new ht2
      have g2 : (upd H14 t2 (.tup [.str "unlike", .str la, .str lb])) t2 = some (.tup [.str "unlike", .str la, .str lb]) := upd_same
      generalize upd H14 t2 (.tup [.str "unlike", .str la, .str lb]) = H15 at s15 g2 ⊢
      have g1 := s15 _ _ (s14 _ _ (s13 _ _ g1))
      have s25 := s12.trans (s13.trans (s14.trans s15))
      have ht := s25 _ _ ht
      have F15 := F11.same s25
      refine ⟨_, rfl, (by show 3 ≤ sizeLine; decide), fun lg hlg => ?_⟩
      have gd : ∀ z ∈ [V.ref t1, V.ref t2, V.ref t], Gd3 H15 z := all3 ⟨_, _, rfl, g1, all2 sx_al (Sx.tx (by omega)), by simp⟩ ⟨_, _, rfl, g2, all3 sx_un (Sx.lm hla (by omega)) (Sx.lm hlb (by omega)), by simp⟩ ⟨_, _, rfl, ht, sx, hxl⟩
      have s16 : Same H15 (upd H15 lg (.lst [.ref t1, .ref t2, .ref t])) := Same.new hlg
      have fg : (upd H15 lg (.lst [.ref t1, .ref t2, .ref t])) lg = some (.lst [.ref t1, .ref t2, .ref t]) := upd_same
      generalize upd H15 lg (.lst [.ref t1, .ref t2, .ref t]) = H16 at s16 fg ⊢
      have gd : ∀ z ∈ [V.ref t1, V.ref t2, V.ref t], Gd3 H16 z := fun z hz => (gd z hz).same s16
      have F16 := F15.same s16
      clear g1 g2 ht exs sx eo s12 s13 s14 s15 s25 s16 F15 F11
      generalize eG : [V.ref t1, V.ref t2, V.ref t] = G at fg gd ⊢
      have lG : G.length = 3 := by rw [← eG]; rfl
      clear eG
      -- the things
      refine asg_go ?_
      have eA : ∀ {H : Hp}, E3 H (.str "alike") := .str _ ⟨by decide +kernel, by decide +kernel⟩
      have eU : ∀ {H : Hp}, E3 H (.str "unlike") := .str _ ⟨by decide +kernel, by decide +kernel⟩
      have eY : ∀ {H : Hp}, E3 H (tx y) := .tx y (by omega)
      refine ⟨(by show 0 ≤ sizeLine; decide), fun e0 he0 => ?_⟩
      have s17 : Same H16 (upd H16 e0 (.tup [])) := Same.new he0
      have ge0 : (upd H16 e0 (.tup [])) e0 = some (.tup []) := upd_same
      generalize upd H16 e0 (.tup []) = H17 at s17 ge0 ⊢
      refine ⟨(by show 1 ≤ sizeLine; decide), fun e1 he1 => ?_⟩
      have s18 : Same H17 (upd H17 e1 (.tup [.str "alike"])) := Same.new he1
      have ge1 : (upd H17 e1 (.tup [.str "alike"])) e1 = some (.tup [.str "alike"]) := upd_same
      generalize upd H17 e1 (.tup [.str "alike"]) = H18 at s18 ge1 ⊢
      refine ⟨_, rfl, (by show 2 ≤ sizeLine; decide), fun e2 he2 => ?_⟩
      have s19 : Same H18 (upd H18 e2 (.lst [.str "alike", tx y])) := Same.new he2
      have ge2 : (upd H18 e2 (.lst [.str "alike", tx y])) e2 = some (.lst [.str "alike", tx y]) := upd_same
      generalize upd H18 e2 (.lst [.str "alike", tx y]) = H19 at s19 ge2 ⊢
      refine ⟨_, rfl, _, rfl, (by show 3 ≤ sizeLine; decide), fun e3 he3 => ?_⟩
      have s20 : Same H19 (upd H19 e3 (.tup [.str "alike", tx y, tx y])) := Same.new he3
      have ge3 : (upd H19 e3 (.tup [.str "alike", tx y, tx y])) e3 = some (.tup [.str "alike", tx y, tx y]) := upd_same
      generalize upd H19 e3 (.tup [.str "alike", tx y, tx y]) = H20 at s20 ge3 ⊢
      refine ⟨_, rfl, (by show 2 ≤ sizeLine; decide), fun e4 he4 => ?_⟩
      have s21 : Same H20 (upd H20 e4 (.tup [.str "unlike", tx y])) := Same.new he4
      have ge4 : (upd H20 e4 (.tup [.str "unlike", tx y])) e4 = some (.tup [.str "unlike", tx y]) := upd_same
      generalize upd H20 e4 (.tup [.str "unlike", tx y]) = H21 at s21 ge4 ⊢
      refine ⟨_, rfl, (by show 2 ≤ sizeLine; decide), fun e5 he5 => ?_⟩
      have s22 : Same H21 (upd H21 e5 (.tup [.int 1, tx y])) := Same.new he5
      have ge5 : (upd H21 e5 (.tup [.int 1, tx y])) e5 = some (.tup [.int 1, tx y]) := upd_same
      generalize upd H21 e5 (.tup [.int 1, tx y]) = H22 at s22 ge5 ⊢
      have z4 := s22
      have z3 := s21.trans z4
      have z2 := s20.trans z3
      have z1 := s19.trans z2
      have z0 := s18.trans z1
      have zz := s17.trans z0
      have th : ∀ z ∈ [V.non, V.ref e0, V.str "alike", V.ref e1, V.ref e2, V.ref e3, V.ref e4, V.ref e5], ∃ o, T3 H22 z o := by
        intro z hz
        simp only [List.mem_cons, List.not_mem_nil, or_false] at hz
        rcases hz with rfl | rfl | rfl | rfl | rfl | rfl | rfl | rfl
        · exact ⟨_, .non⟩
        · exact ⟨_, .tup (z0 _ _ ge0) (fun y hy => by cases hy) (by simp)⟩
        · exact ⟨_, .str _⟩
        · exact ⟨_, .tup (z1 _ _ ge1) (fun y hy => (by rw [List.mem_singleton.mp hy]; exact eA)) (by simp)⟩
        · exact ⟨_, .lst (z2 _ _ ge2)⟩
        · exact ⟨_, .tup (z3 _ _ ge3) (all3 eA eY eY) (by simp)⟩
        · exact ⟨_, .tup (z4 _ _ ge4) (all2 eU eY) (by simp)⟩
        · exact ⟨_, .tup ge5 (all2 (.int 1) eY) (by simp)⟩
      have fg := zz _ _ fg
      have gd : ∀ z ∈ G, Gd3 H22 z := fun z hz => (gd z hz).same zz
      have F22 := F16.same zz
      refine ⟨(by show 8 ≤ sizeLine; decide), fun l1 hl1 => ?_⟩
      have s23 : Same H22 (upd H22 l1 (.lst [.non, .ref e0, .str "alike", .ref e1, .ref e2, .ref e3, .ref e4, .ref e5])) := Same.new hl1
      have f1 : (upd H22 l1 (.lst [.non, .ref e0, .str "alike", .ref e1, .ref e2, .ref e3, .ref e4, .ref e5])) l1 = some (.lst [.non, .ref e0, .str "alike", .ref e1, .ref e2, .ref e3, .ref e4, .ref e5]) := upd_same
      generalize upd H22 l1 (.lst [.non, .ref e0, .str "alike", .ref e1, .ref e2, .ref e3, .ref e4, .ref e5]) = H23 at s23 f1 ⊢
      generalize eL : [V.non, V.ref e0, V.str "alike", V.ref e1, V.ref e2, V.ref e3, V.ref e4, V.ref e5] = L8 at f1 th ⊢
      have lL : L8.length = 8 := by rw [← eL]; rfl
      clear eL ge0 ge1 ge2 ge3 ge4 ge5 z0 z1 z2 z3 z4 zz s17 s18 s19 s20 s21 s22
      refine ⟨_, rfl, l1, lg, _, _, rfl, rfl, f1, s23 _ _ fg, (by omega), fun l2 hl2 => ?_⟩
      have s24 : Same H23 (upd H23 l2 (.lst (L8 ++ G))) := Same.new hl2
      have f2 : (upd H23 l2 (.lst (L8 ++ G))) l2 = some (.lst (L8 ++ G)) := upd_same
      generalize upd H23 l2 (.lst (L8 ++ G)) = H24 at s24 f2 ⊢
      have s34 := s23.trans s24
      have fg := s34 _ _ fg
      have gd : ∀ z ∈ G, Gd3 H24 z := fun z hz => (gd z hz).same s34
      have F24 := F22.same s34
      have th : ∀ z ∈ L8 ++ G, ∃ o, T3 H24 z o := fun z hz => by
        rcases List.mem_append.mp hz with hz | hz
        · obtain ⟨o, T⟩ := th z hz
          exact ⟨o, T.same s34⟩
        · exact (gd z hz).u3.t (by decide)
      have lT : (L8 ++ G).length = 11 := by rw [List.length_append]; omega
      generalize L8 ++ G = Ts at f2 th lT ⊢
      clear f1 lL s34 s23 s24
      have nlg : lg ≠ d := F24.nl fg
      have nl2 : l2 ≠ d := F24.nl f2
      -- bent ones
      refine asg_go ?_
      refine ⟨_, rfl, _, rfl, by decide, by decide, ?_⟩
      refine comp_by (own := ["_law_j"]) (cap := [1, 11]) (J := Itr 0 6) 6 (fun i ys σ H' => ∃ v : Option V, σ = [v, some (.ref d), some (.ref lg)] ∧ ys.length = i ∧ (∀ z ∈ ys, ∃ o, T3 H' z o) ∧ Fd H' d ∧ SameB d H24 H') ⟨none, rfl, rfl, (fun z hz => by cases hz), F24, SameB.refl _ _⟩ (fun i ys σ H' hi ⟨_, _, e, _⟩ => Nat.le_of_eq e) (by decide) (fun i ys σ H' hi _ => hi) (fun ys σ H' _ => Nat.le_refl _) ?_ ?_
      · rintro j ys σ H25 x H26 N hj ⟨_, rfl, hys, hyt, F25, sb25⟩ ⟨rfl, rfl⟩ hN
        refine ⟨_, rfl, _, rfl, _, rfl, d, _, rfl, F25, by decide, by decide, fun q H27 q0 q1 F27 sb27 => ?_⟩
        obtain ⟨z, hz, mz⟩ := at_mem (xs := G) q0 (by rw [lG]; exact q1)
        have sb47 := sb25.trans sb27
        obtain ⟨p, xs, rfl, hp, hx, hxl⟩ := (gd z mz).sb F24 sb47
        refine ⟨lg, _, _, _, rfl, rfl, SqL.of (sb47 _ _ nlg fg), hz, d, p, xs, rfl, F27, hp, (fun z hz => (hx z hz).s3.e (j := 0) (by decide)), hxl, fun y o H28 T F28 sb28 => ?_⟩
        refine hN _ _ _ ⟨_, rfl, by rw [List.length_append, hys]; rfl, fun z hz => ?_, F28, sb47.trans sb28⟩
        rcases List.mem_append.mp hz with hz | hz
        · obtain ⟨o, T⟩ := hyt z hz
          exact ⟨o, (T.sb F25 sb27).sb F27 sb28⟩
        · rw [List.mem_singleton.mp hz]
          exact ⟨o, T⟩
      rintro ys σ H25 l3 ⟨_, rfl, hys, hyt, F25, sb25⟩ hl3
      have f3 : (upd H25 l3 (.lst ys)) l3 = some (.lst ys) := upd_same
      have s26 : Same H25 (upd H25 l3 (.lst ys)) := Same.new hl3
      generalize upd H25 l3 (.lst ys) = H26 at f3 s26 ⊢
      have sb26 := sb25.trans s26.b
      refine ⟨l2, l3, _, _, rfl, rfl, sb26 _ _ nl2 f2, f3, (by omega), fun l4 hl4 => ?_⟩
      have s27 : Same H26 (upd H26 l4 (.lst (Ts ++ ys))) := Same.new hl4
      have f4 : (upd H26 l4 (.lst (Ts ++ ys))) l4 = some (.lst (Ts ++ ys)) := upd_same
      generalize upd H26 l4 (.lst (Ts ++ ys)) = H27 at s27 f4 ⊢
      have sb27 := sb26.trans s27.b
      have F27 := F25.same (s26.trans s27)
      have th : ∀ z ∈ Ts ++ ys, ∃ o, T3 H27 z o := fun z hz => by
        rcases List.mem_append.mp hz with hz | hz
        · obtain ⟨o, T⟩ := th z hz
          exact ⟨o, T.sb F24 sb27⟩
        · obtain ⟨o, T⟩ := hyt z hz
          exact ⟨o, T.same (s26.trans s27)⟩
      have lT : (Ts ++ ys).length = 17 := by rw [List.length_append]; omega
      generalize Ts ++ ys = Tt at f4 th lT ⊢
      have fg := sb27 _ _ nlg fg
      have gd : ∀ z ∈ G, Gd3 H27 z := fun z hz => (gd z hz).sb F24 sb27
      have nl4 : l4 ≠ d := F27.nl f4
      clear f2 f3 hyt hys sb25 sb26 sb27 s26 s27
      -- spoilt ones
      refine asg_go ?_
      refine ⟨_, rfl, by decide, by decide, ?_⟩
      refine comp_by (own := ["_law_j"]) (cap := [1, 11]) (J := Itr 0 4) 4 (fun i ys σ H' => ∃ v : Option V, σ = [v, some (.ref d), some (.ref lg)] ∧ ys.length = i ∧ (∀ z ∈ ys, U3 H' 1 z) ∧ Fd H' d ∧ SameB d H27 H') ⟨none, rfl, rfl, (fun z hz => by cases hz), F27, SameB.refl _ _⟩ (fun i ys σ H' hi ⟨_, _, e, _⟩ => Nat.le_of_eq e) (by decide) (fun i ys σ H' hi _ => hi) (fun ys σ H' _ => Nat.le_refl _) ?_ ?_
      · rintro j ys σ H28 x H29 N hj ⟨_, rfl, hys, hyt, F28, sb28⟩ ⟨rfl, rfl⟩ hN
        refine ⟨_, rfl, _, rfl, _, rfl, d, _, rfl, F28, by decide, by decide, fun q H30 q0 q1 F30 sb30 => ?_⟩
        obtain ⟨z, hz, mz⟩ := at_mem (xs := G) q0 (by rw [lG]; exact q1)
        have sb70 := sb28.trans sb30
        refine ⟨lg, _, _, _, rfl, rfl, SqL.of (sb70 _ _ nlg fg), hz, d, 0, z, rfl, F30, by decide, ((gd z mz).sb F27 sb70).u3, fun y H31 U F31 sb31 => ?_⟩
        refine hN _ _ _ ⟨_, rfl, by rw [List.length_append, hys]; rfl, fun z hz => ?_, F31, sb70.trans sb31⟩
        rcases List.mem_append.mp hz with hz | hz
        · exact ((hyt z hz).sb F28 sb30).sb F30 sb31
        · rw [List.mem_singleton.mp hz]
          exact U
      rintro Bs σ H28 l5 ⟨_, rfl, hBs, hBt, F28, sb28⟩ hl5
      have f5 : (upd H28 l5 (.lst Bs)) l5 = some (.lst Bs) := upd_same
      have s29 : Same H28 (upd H28 l5 (.lst Bs)) := Same.new hl5
      generalize upd H28 l5 (.lst Bs) = H29 at f5 s29 ⊢
      have F29 := F28.same s29
      have sb29 := sb28.trans s29.b
      have f4 := sb29 _ _ nl4 f4
      have hBt : ∀ z ∈ Bs, U3 H29 1 z := fun z hz => (hBt z hz).same s29
      have th : ∀ z ∈ Tt, ∃ o, T3 H29 z o := fun z hz => by
        obtain ⟨o, T⟩ := th z hz
        exact ⟨o, T.sb F27 sb29⟩
      clear sb29 sb28 s29 fg gd
      refine asg_go ?_
      refine ⟨_, rfl, _, rfl, l4, l5, _, _, rfl, rfl, f4, f5, (by omega), fun l6 hl6 => ?_⟩
      have s30 : Same H29 (upd H29 l6 (.lst (Tt ++ Bs))) := Same.new hl6
      have f6 : (upd H29 l6 (.lst (Tt ++ Bs))) l6 = some (.lst (Tt ++ Bs)) := upd_same
      generalize upd H29 l6 (.lst (Tt ++ Bs)) = H30 at s30 f6 ⊢
      have F30 := F29.same s30
      have f5 := s30 _ _ f5
      have hBt : ∀ z ∈ Bs, U3 H30 1 z := fun z hz => (hBt z hz).same s30
      have th : ∀ z ∈ Tt ++ Bs, ∃ o, T3 H30 z o := fun z hz => by
        rcases List.mem_append.mp hz with hz | hz
        · obtain ⟨o, T⟩ := th z hz
          exact ⟨o, T.same s30⟩
        · exact (hBt z hz).t (by decide)
      have lU : (Tt ++ Bs).length = 21 := by rw [List.length_append]; omega
      generalize Tt ++ Bs = Tu at f6 th lU ⊢
      have nl5 : l5 ≠ d := F30.nl f5
      have nl6 : l6 ≠ d := F30.nl f6
      clear s30 f4
      refine ⟨_, rfl, l5, rfl, ⟨_, SqL.of f5⟩, ?_⟩
      refine comp_list (xs := Bs) (own := ["_law_one"]) (cap := [1]) (fun j ys σ H' => ∃ v : Option V, σ = [v, some (.ref d)] ∧ ys.length = j ∧ (∀ z ∈ ys, U3 H' 2 z) ∧ Fd H' d ∧ SameB d H30 H') ⟨none, rfl, rfl, (fun z hz => by cases hz), F30, SameB.refl _ _⟩ (fun j ys σ H' hj ⟨_, _, e, _⟩ => Nat.le_of_eq e) (by omega) (fun j ys σ H' ⟨_, _, _, _, _, sb⟩ => SqL.of (sb _ _ nl5 f5)) ?_ ?_
      · rintro j ys σ H31 z N hz ⟨_, rfl, hys, hyt, F31, sb31⟩ hN
        refine ⟨_, rfl, _, rfl, d, 1, z, rfl, F31, by decide, (hBt z (List.mem_of_getElem? hz)).sb F30 sb31, fun y H32 U F32 sb32 => ?_⟩
        refine hN _ _ _ ⟨_, rfl, by rw [List.length_append, hys]; rfl, fun z hz => ?_, F32, sb31.trans sb32⟩
        rcases List.mem_append.mp hz with hz | hz
        · exact (hyt z hz).sb F31 sb32
        · rw [List.mem_singleton.mp hz]
          exact U
      rintro Cs σ H31 l7 ⟨_, rfl, hCs, hCt, F31, sb31⟩ hl7
      have f7 : (upd H31 l7 (.lst Cs)) l7 = some (.lst Cs) := upd_same
      have s32 : Same H31 (upd H31 l7 (.lst Cs)) := Same.new hl7
      generalize upd H31 l7 (.lst Cs) = H32 at f7 s32 ⊢
      refine ⟨l6, l7, _, _, rfl, rfl, s32 _ _ (sb31 _ _ nl6 f6), f7, (by omega), fun l8 hl8 => ?_⟩
      have s33 : Same H32 (upd H32 l8 (.lst (Tu ++ Cs))) := Same.new hl8
      have f8 : (upd H32 l8 (.lst (Tu ++ Cs))) l8 = some (.lst (Tu ++ Cs)) := upd_same
      generalize upd H32 l8 (.lst (Tu ++ Cs)) = H33 at s33 f8 ⊢
      have s13 := s32.trans s33
      have F33 := F31.same s13
      have th : ∀ z ∈ Tu ++ Cs, ∃ o, T3 H33 z o := fun z hz => by
        rcases List.mem_append.mp hz with hz | hz
        · obtain ⟨o, T⟩ := th z hz
          exact ⟨o, (T.sb F30 sb31).same s13⟩
        · obtain ⟨o, T⟩ := (hCt z hz).t (by decide)
          exact ⟨o, T.same s13⟩
      generalize Tu ++ Cs = Tv at f8 th ⊢
      -- each
      refine ⟨l8, rfl, ⟨_, SqL.of f8⟩, for_list (xs := Tv) (fun j σ H' => ∃ b14 : Option V, σ = [some (.ref a), some (.ref d), some (.int (0 + (i : Int))), some (.int (1 + m)), some (tx u), some (tx y), some (tx v), c7, c8, some (.str x0), some (.ref t), some (.ref lg), some (.ref l4), some (.ref l5), b14] ∧ Same H33 H') ⟨_, rfl, Same.refl _⟩ (fun j σ H' hj ⟨_, _, s⟩ => SqL.of (s _ _ f8)) ?_ ?_⟩
      · rintro j z σ H34 hz ⟨_, rfl, s34⟩
        obtain ⟨o, T⟩ := th z (List.mem_of_getElem? hz)
        have T := T.same s34
        have sh := out_sh (o := out3 u v la lb o) fun z k e => out_small e
        refine ⟨_, rfl, _, rfl, _, rfl, u, v, la, lb, z, o, rfl, by omega, by omega, hla, hlb, T, fun r H35 dt s35 _ => ⟨r, _, rfl, dt, sh.1, sh.2, ?_⟩⟩
        refine ⟨_, rfl, _, rfl, _, rfl, u, v, la, lb, z, o, rfl, by omega, by omega, hla, hlb, T.same s35, fun r2 H36 dt2 s36 _ => ⟨r2, _, rfl, dt2, sh.1, sh.2, rfl, _, rfl, ?_⟩⟩
        refine iteD (by simp) ?_
        exact ⟨_, rfl, s34.trans (s35.trans s36)⟩
      · rintro σ H34 ⟨_, rfl, s34⟩
        exact ⟨_, _, _, _, _, _, _, _, _, _, _, _, _, rfl, F33.same s34⟩
    · rintro σ H1 ⟨b2, b3, b4, b5, b6, b7, b8, b9, b10, b11, b12, b13, b14, rfl, F1⟩
      exact k H1
end
end Kx
set_option Elab.async false
set_option linter.all false
set_option maxRecDepth 100000
set_option maxHeartbeats 0
namespace Kx
open PySem PySem.Spec PyProof.Rows L2 Wd
theorem df_mk {K : PySem.W.Frag} {h : Heap} {mg : Str → Option Value} {x : Str} {st : Stmt} {f : Addr} {oc : Value} {od an : Option Addr} {osl : Array (Option Value)} {kV doc pm cdv ct : Value} (X : K.In h) (G : h.Ns mainGlobals mg) (a : PySem.W.nsIn K mainGlobals x = some (some (.ref f)))
    (l : K.lookup f = some ⟨oc, od, .func (PySem.W.fnOf x x (defArgs st) (defBody st) (defScope st) .none kV doc pm an cdv ct), osl⟩) (c : PySem.W.codeIn K cdv x = true) (k : PySem.W.keepIn K (.ref f) = true) : Df K mg x st := ⟨f, _, PySem.W.mg_of X G a, fun_mk l c k⟩
theorem all_mk {l : PySem.W.OpenLaw} {w : World} {K : PySem.W.Frag} {h : Heap} {mg : Str → Option Value} {fa : Addr} (X : K.In h) (G : h.Ns mainGlobals mg) (hfa : mg "law" = some (.ref fa))
    {f0 : Addr} {od0 an0 : Option Addr} {sl0 : Array (Option Value)} {oc0 kV0 dc0 pm0 cd0 ct0 : Value} {f1 : Addr} {od1 an1 : Option Addr} {sl1 : Array (Option Value)} {oc1 kV1 dc1 pm1 cd1 ct1 : Value} {f2 : Addr} {od2 an2 : Option Addr} {sl2 : Array (Option Value)} {oc2 kV2 dc2 pm2 cd2 ct2 : Value} {f3 : Addr} {od3 an3 : Option Addr} {sl3 : Array (Option Value)} {oc3 kV3 dc3 pm3 cd3 ct3 : Value} {f4 : Addr} {od4 an4 : Option Addr} {sl4 : Array (Option Value)} {oc4 kV4 dc4 pm4 cd4 ct4 : Value} {f5 : Addr} {od5 an5 : Option Addr} {sl5 : Array (Option Value)} {oc5 kV5 dc5 pm5 cd5 ct5 : Value} {f6 : Addr} {od6 an6 : Option Addr} {sl6 : Array (Option Value)} {oc6 kV6 dc6 pm6 cd6 ct6 : Value} {f7 : Addr} {od7 an7 : Option Addr} {sl7 : Array (Option Value)} {oc7 kV7 dc7 pm7 cd7 ct7 : Value} {f8 : Addr} {od8 an8 : Option Addr} {sl8 : Array (Option Value)} {oc8 kV8 dc8 pm8 cd8 ct8 : Value} {f9 : Addr} {od9 an9 : Option Addr} {sl9 : Array (Option Value)} {oc9 kV9 dc9 pm9 cd9 ct9 : Value} {f10 : Addr} {od10 an10 : Option Addr} {sl10 : Array (Option Value)} {oc10 kV10 dc10 pm10 cd10 ct10 : Value} {f11 : Addr} {od11 an11 : Option Addr} {sl11 : Array (Option Value)} {oc11 kV11 dc11 pm11 cd11 ct11 : Value} {f12 : Addr} {od12 an12 : Option Addr} {sl12 : Array (Option Value)} {oc12 kV12 dc12 pm12 cd12 ct12 : Value} {f13 : Addr} {od13 an13 : Option Addr} {sl13 : Array (Option Value)} {oc13 kV13 dc13 pm13 cd13 ct13 : Value} {f14 : Addr} {od14 an14 : Option Addr} {sl14 : Array (Option Value)} {oc14 kV14 dc14 pm14 cd14 ct14 : Value} {f15 : Addr} {od15 an15 : Option Addr} {sl15 : Array (Option Value)} {oc15 kV15 dc15 pm15 cd15 ct15 : Value} {f16 : Addr} {od16 an16 : Option Addr} {sl16 : Array (Option Value)} {oc16 kV16 dc16 pm16 cd16 ct16 : Value} {f17 : Addr} {od17 an17 : Option Addr} {sl17 : Array (Option Value)} {oc17 kV17 dc17 pm17 cd17 ct17 : Value} {f18 : Addr} {od18 an18 : Option Addr} {sl18 : Array (Option Value)} {oc18 kV18 dc18 pm18 cd18 ct18 : Value} {f19 : Addr} {od19 an19 : Option Addr} {sl19 : Array (Option Value)} {oc19 kV19 dc19 pm19 cd19 ct19 : Value} {f20 : Addr} {od20 an20 : Option Addr} {sl20 : Array (Option Value)} {oc20 kV20 dc20 pm20 cd20 ct20 : Value} {f21 : Addr} {od21 an21 : Option Addr} {sl21 : Array (Option Value)} {oc21 kV21 dc21 pm21 cd21 ct21 : Value} {f22 : Addr} {od22 an22 : Option Addr} {sl22 : Array (Option Value)} {oc22 kV22 dc22 pm22 cd22 ct22 : Value} {f23 : Addr} {od23 an23 : Option Addr} {sl23 : Array (Option Value)} {oc23 kV23 dc23 pm23 cd23 ct23 : Value} {f24 : Addr} {od24 an24 : Option Addr} {sl24 : Array (Option Value)} {oc24 kV24 dc24 pm24 cd24 ct24 : Value} {f25 : Addr} {od25 an25 : Option Addr} {sl25 : Array (Option Value)} {oc25 kV25 dc25 pm25 cd25 ct25 : Value} {f26 : Addr} {od26 an26 : Option Addr} {sl26 : Array (Option Value)} {oc26 kV26 dc26 pm26 cd26 ct26 : Value} {f27 : Addr} {od27 an27 : Option Addr} {sl27 : Array (Option Value)} {oc27 kV27 dc27 pm27 cd27 ct27 : Value} {f28 : Addr} {od28 an28 : Option Addr} {sl28 : Array (Option Value)} {oc28 kV28 dc28 pm28 cd28 ct28 : Value} {f29 : Addr} {od29 an29 : Option Addr} {sl29 : Array (Option Value)} {oc29 kV29 dc29 pm29 cd29 ct29 : Value} {aB : Addr} {es : Array DictEntry} {en : Nat} {tS : Tok}   {tM : Tok}  {CR : Addr} {ddCR : Option Addr} {cdCR : ClassData} {sCR0 sCR1 sCR2 sCR3 sCR5 : Option Value}         {nsCR : Addr} {onCR : Value} {dnCR : Option Addr} {esCR : Array DictEntry} {nnCR : Nat} {snCR : Array (Option Value)}         {CT : Addr} {ddCT : Option Addr} {cdCT : ClassData} {sCT0 sCT1 sCT2 sCT3 sCT5 : Option Value}           {fCT : Addr} {ocCT kVCT dcCT pmCT cvCT ctCT : Value} {odCT anCT : Option Addr} {slCT : Array (Option Value)}    {ck0 : Addr} {ck1 : Addr} {ck2 : Addr} {ck3 : Addr} {ck4 : Addr} {ck5 : Addr} {ck6 : Addr} {ck7 : Addr} {dk0 : Option Addr} {xk0 : ClassData} {sk0 : Array (Option Value)}  {dk1 : Option Addr} {xk1 : ClassData} {sk1 : Array (Option Value)}  {dk2 : Option Addr} {xk2 : ClassData} {sk2 : Array (Option Value)}  {dk3 : Option Addr} {xk3 : ClassData} {sk3 : Array (Option Value)}  {dk4 : Option Addr} {xk4 : ClassData} {sk4 : Array (Option Value)}  {dk5 : Option Addr} {xk5 : ClassData} {sk5 : Array (Option Value)}  {dk6 : Option Addr} {xk6 : ClassData} {sk6 : Array (Option Value)}  {dk7 : Option Addr} {xk7 : ClassData} {sk7 : Array (Option Value)}  {t0 t1 t2 t3 t4 t5 t6 t7 t8 t9 t10 t11 : Tok}
    (a0 : PySem.W.nsIn K mainGlobals "is_letter" = some (some (.ref f0)))
    (l0 : K.lookup f0 = some ⟨oc0, od0, .func (PySem.W.fnOf "is_letter" "is_letter" (defArgs s_letter) (defBody s_letter) (defScope s_letter) .none kV0 dc0 pm0 an0 cd0 ct0), sl0⟩)
    (c0 : PySem.W.codeIn K cd0 "is_letter" = true)
    (k0 : PySem.W.keepIn K (.ref f0) = true)
    (a1 : PySem.W.nsIn K mainGlobals "is_word" = some (some (.ref f1)))
    (l1 : K.lookup f1 = some ⟨oc1, od1, .func (PySem.W.fnOf "is_word" "is_word" (defArgs s_word) (defBody s_word) (defScope s_word) .none kV1 dc1 pm1 an1 cd1 ct1), sl1⟩)
    (c1 : PySem.W.codeIn K cd1 "is_word" = true)
    (k1 : PySem.W.keepIn K (.ref f1) = true)
    (a2 : PySem.W.nsIn K mainGlobals "number_of" = some (some (.ref f2)))
    (l2 : K.lookup f2 = some ⟨oc2, od2, .func (PySem.W.fnOf "number_of" "number_of" (defArgs s_num) (defBody s_num) (defScope s_num) .none kV2 dc2 pm2 an2 cd2 ct2), sl2⟩)
    (c2 : PySem.W.codeIn K cd2 "number_of" = true)
    (k2 : PySem.W.keepIn K (.ref f2) = true)
    (a3 : PySem.W.nsIn K mainGlobals "back" = some (some (.ref f3)))
    (l3 : K.lookup f3 = some ⟨oc3, od3, .func (PySem.W.fnOf "back" "back" (defArgs s_back) (defBody s_back) (defScope s_back) .none kV3 dc3 pm3 an3 cd3 ct3), sl3⟩)
    (c3 : PySem.W.codeIn K cd3 "back" = true)
    (k3 : PySem.W.keepIn K (.ref f3) = true)
    (a4 : PySem.W.nsIn K mainGlobals "reduced" = some (some (.ref f4)))
    (l4 : K.lookup f4 = some ⟨oc4, od4, .func (PySem.W.fnOf "reduced" "reduced" (defArgs s_red) (defBody s_red) (defScope s_red) .none kV4 dc4 pm4 an4 cd4 ct4), sl4⟩)
    (c4 : PySem.W.codeIn K cd4 "reduced" = true)
    (k4 : PySem.W.keepIn K (.ref f4) = true)
    (a5 : PySem.W.nsIn K mainGlobals "core" = some (some (.ref f5)))
    (l5 : K.lookup f5 = some ⟨oc5, od5, .func (PySem.W.fnOf "core" "core" (defArgs s_core) (defBody s_core) (defScope s_core) .none kV5 dc5 pm5 an5 cd5 ct5), sl5⟩)
    (c5 : PySem.W.codeIn K cd5 "core" = true)
    (k5 : PySem.W.keepIn K (.ref f5) = true)
    (a6 : PySem.W.nsIn K mainGlobals "least_turn" = some (some (.ref f6)))
    (l6 : K.lookup f6 = some ⟨oc6, od6, .func (PySem.W.fnOf "least_turn" "least_turn" (defArgs s_least) (defBody s_least) (defScope s_least) .none kV6 dc6 pm6 an6 cd6 ct6), sl6⟩)
    (c6 : PySem.W.codeIn K cd6 "least_turn" = true)
    (k6 : PySem.W.keepIn K (.ref f6) = true)
    (a7 : PySem.W.nsIn K mainGlobals "least_place" = some (some (.ref f7)))
    (l7 : K.lookup f7 = some ⟨oc7, od7, .func (PySem.W.fnOf "least_place" "least_place" (defArgs s_leastp) (defBody s_leastp) (defScope s_leastp) .none kV7 dc7 pm7 an7 cd7 ct7), sl7⟩)
    (c7 : PySem.W.codeIn K cd7 "least_place" = true)
    (k7 : PySem.W.keepIn K (.ref f7) = true)
    (a8 : PySem.W.nsIn K mainGlobals "lets_turning" = some (some (.ref f8)))
    (l8 : K.lookup f8 = some ⟨oc8, od8, .func (PySem.W.fnOf "lets_turning" "lets_turning" (defArgs s_lets) (defBody s_lets) (defScope s_lets) .none kV8 dc8 pm8 an8 cd8 ct8), sl8⟩)
    (c8 : PySem.W.codeIn K cd8 "lets_turning" = true)
    (k8 : PySem.W.keepIn K (.ref f8) = true)
    (a9 : PySem.W.nsIn K mainGlobals "is_alike_paper" = some (some (.ref f9)))
    (l9 : K.lookup f9 = some ⟨oc9, od9, .func (PySem.W.fnOf "is_alike_paper" "is_alike_paper" (defArgs s_ap) (defBody s_ap) (defScope s_ap) .none kV9 dc9 pm9 an9 cd9 ct9), sl9⟩)
    (c9 : PySem.W.codeIn K cd9 "is_alike_paper" = true)
    (k9 : PySem.W.keepIn K (.ref f9) = true)
    (a10 : PySem.W.nsIn K mainGlobals "is_unlike_paper" = some (some (.ref f10)))
    (l10 : K.lookup f10 = some ⟨oc10, od10, .func (PySem.W.fnOf "is_unlike_paper" "is_unlike_paper" (defArgs s_up) (defBody s_up) (defScope s_up) .none kV10 dc10 pm10 an10 cd10 ct10), sl10⟩)
    (c10 : PySem.W.codeIn K cd10 "is_unlike_paper" = true)
    (k10 : PySem.W.keepIn K (.ref f10) = true)
    (a11 : PySem.W.nsIn K mainGlobals "look_at_alike" = some (some (.ref f11)))
    (l11 : K.lookup f11 = some ⟨oc11, od11, .func (PySem.W.fnOf "look_at_alike" "look_at_alike" (defArgs s_la) (defBody s_la) (defScope s_la) .none kV11 dc11 pm11 an11 cd11 ct11), sl11⟩)
    (c11 : PySem.W.codeIn K cd11 "look_at_alike" = true)
    (k11 : PySem.W.keepIn K (.ref f11) = true)
    (a12 : PySem.W.nsIn K mainGlobals "look_at_unlike" = some (some (.ref f12)))
    (l12 : K.lookup f12 = some ⟨oc12, od12, .func (PySem.W.fnOf "look_at_unlike" "look_at_unlike" (defArgs s_lu) (defBody s_lu) (defScope s_lu) .none kV12 dc12 pm12 an12 cd12 ct12), sl12⟩)
    (c12 : PySem.W.codeIn K cd12 "look_at_unlike" = true)
    (k12 : PySem.W.keepIn K (.ref f12) = true)
    (a13 : PySem.W.nsIn K mainGlobals "least_middle" = some (some (.ref f13)))
    (l13 : K.lookup f13 = some ⟨oc13, od13, .func (PySem.W.fnOf "least_middle" "least_middle" (defArgs s_lm) (defBody s_lm) (defScope s_lm) .none kV13 dc13 pm13 an13 cd13 ct13), sl13⟩)
    (c13 : PySem.W.codeIn K cd13 "least_middle" = true)
    (k13 : PySem.W.keepIn K (.ref f13) = true)
    (a14 : PySem.W.nsIn K mainGlobals "turning" = some (some (.ref f14)))
    (l14 : K.lookup f14 = some ⟨oc14, od14, .func (PySem.W.fnOf "turning" "turning" (defArgs s_turning) (defBody s_turning) (defScope s_turning) .none kV14 dc14 pm14 an14 cd14 ct14), sl14⟩)
    (c14 : PySem.W.codeIn K cd14 "turning" = true)
    (k14 : PySem.W.keepIn K (.ref f14) = true)
    (a15 : PySem.W.nsIn K mainGlobals "_law_feed" = some (some (.ref f15)))
    (l15 : K.lookup f15 = some ⟨oc15, od15, .func (PySem.W.fnOf "_law_feed" "_law_feed" (defArgs s_feed) (defBody s_feed) (defScope s_feed) .none kV15 dc15 pm15 an15 cd15 ct15), sl15⟩)
    (c15 : PySem.W.codeIn K cd15 "_law_feed" = true)
    (k15 : PySem.W.keepIn K (.ref f15) = true)
    (a16 : PySem.W.nsIn K mainGlobals "_law_draw" = some (some (.ref f16)))
    (l16 : K.lookup f16 = some ⟨oc16, od16, .func (PySem.W.fnOf "_law_draw" "_law_draw" (defArgs s_draw) (defBody s_draw) (defScope s_draw) .none kV16 dc16 pm16 an16 cd16 ct16), sl16⟩)
    (c16 : PySem.W.codeIn K cd16 "_law_draw" = true)
    (k16 : PySem.W.keepIn K (.ref f16) = true)
    (a17 : PySem.W.nsIn K mainGlobals "_law_back" = some (some (.ref f17)))
    (l17 : K.lookup f17 = some ⟨oc17, od17, .func (PySem.W.fnOf "_law_back" "_law_back" (defArgs s_lback) (defBody s_lback) (defScope s_lback) .none kV17 dc17 pm17 an17 cd17 ct17), sl17⟩)
    (c17 : PySem.W.codeIn K cd17 "_law_back" = true)
    (k17 : PySem.W.keepIn K (.ref f17) = true)
    (a18 : PySem.W.nsIn K mainGlobals "_law_reduced" = some (some (.ref f18)))
    (l18 : K.lookup f18 = some ⟨oc18, od18, .func (PySem.W.fnOf "_law_reduced" "_law_reduced" (defArgs s_lred) (defBody s_lred) (defScope s_lred) .none kV18 dc18 pm18 an18 cd18 ct18), sl18⟩)
    (c18 : PySem.W.codeIn K cd18 "_law_reduced" = true)
    (k18 : PySem.W.keepIn K (.ref f18) = true)
    (a19 : PySem.W.nsIn K mainGlobals "_law_some" = some (some (.ref f19)))
    (l19 : K.lookup f19 = some ⟨oc19, od19, .func (PySem.W.fnOf "_law_some" "_law_some" (defArgs s_some) (defBody s_some) (defScope s_some) .none kV19 dc19 pm19 an19 cd19 ct19), sl19⟩)
    (c19 : PySem.W.codeIn K cd19 "_law_some" = true)
    (k19 : PySem.W.keepIn K (.ref f19) = true)
    (a20 : PySem.W.nsIn K mainGlobals "_law_drawn" = some (some (.ref f20)))
    (l20 : K.lookup f20 = some ⟨oc20, od20, .func (PySem.W.fnOf "_law_drawn" "_law_drawn" (defArgs s_drawn) (defBody s_drawn) (defScope s_drawn) .none kV20 dc20 pm20 an20 cd20 ct20), sl20⟩)
    (c20 : PySem.W.codeIn K cd20 "_law_drawn" = true)
    (k20 : PySem.W.keepIn K (.ref f20) = true)
    (a21 : PySem.W.nsIn K mainGlobals "_law_least" = some (some (.ref f21)))
    (l21 : K.lookup f21 = some ⟨oc21, od21, .func (PySem.W.fnOf "_law_least" "_law_least" (defArgs s_ll) (defBody s_ll) (defScope s_ll) .none kV21 dc21 pm21 an21 cd21 ct21), sl21⟩)
    (c21 : PySem.W.codeIn K cd21 "_law_least" = true)
    (k21 : PySem.W.keepIn K (.ref f21) = true)
    (a22 : PySem.W.nsIn K mainGlobals "_law_is_word" = some (some (.ref f22)))
    (l22 : K.lookup f22 = some ⟨oc22, od22, .func (PySem.W.fnOf "_law_is_word" "_law_is_word" (defArgs s_lisw) (defBody s_lisw) (defScope s_lisw) .none kV22 dc22 pm22 an22 cd22 ct22), sl22⟩)
    (c22 : PySem.W.codeIn K cd22 "_law_is_word" = true)
    (k22 : PySem.W.keepIn K (.ref f22) = true)
    (a23 : PySem.W.nsIn K mainGlobals "_law_due" = some (some (.ref f23)))
    (l23 : K.lookup f23 = some ⟨oc23, od23, .func (PySem.W.fnOf "_law_due" "_law_due" (defArgs s_due) (defBody s_due) (defScope s_due) .none kV23 dc23 pm23 an23 cd23 ct23), sl23⟩)
    (c23 : PySem.W.codeIn K cd23 "_law_due" = true)
    (k23 : PySem.W.keepIn K (.ref f23) = true)
    (a24 : PySem.W.nsIn K mainGlobals "_law_told" = some (some (.ref f24)))
    (l24 : K.lookup f24 = some ⟨oc24, od24, .func (PySem.W.fnOf "_law_told" "_law_told" (defArgs s_told) (defBody s_told) (defScope s_told) .none kV24 dc24 pm24 an24 cd24 ct24), sl24⟩)
    (c24 : PySem.W.codeIn K cd24 "_law_told" = true)
    (k24 : PySem.W.keepIn K (.ref f24) = true)
    (a25 : PySem.W.nsIn K mainGlobals "_law_bent" = some (some (.ref f25)))
    (l25 : K.lookup f25 = some ⟨oc25, od25, .func (PySem.W.fnOf "_law_bent" "_law_bent" (defArgs s_bent) (defBody s_bent) (defScope s_bent) .none kV25 dc25 pm25 an25 cd25 ct25), sl25⟩)
    (c25 : PySem.W.codeIn K cd25 "_law_bent" = true)
    (k25 : PySem.W.keepIn K (.ref f25) = true)
    (a26 : PySem.W.nsIn K mainGlobals "_law_sign" = some (some (.ref f26)))
    (l26 : K.lookup f26 = some ⟨oc26, od26, .func (PySem.W.fnOf "_law_sign" "_law_sign" (defArgs s_sign) (defBody s_sign) (defScope s_sign) .none kV26 dc26 pm26 an26 cd26 ct26), sl26⟩)
    (c26 : PySem.W.codeIn K cd26 "_law_sign" = true)
    (k26 : PySem.W.keepIn K (.ref f26) = true)
    (a27 : PySem.W.nsIn K mainGlobals "_law_text_spoilt" = some (some (.ref f27)))
    (l27 : K.lookup f27 = some ⟨oc27, od27, .func (PySem.W.fnOf "_law_text_spoilt" "_law_text_spoilt" (defArgs s_texts) (defBody s_texts) (defScope s_texts) .none kV27 dc27 pm27 an27 cd27 ct27), sl27⟩)
    (c27 : PySem.W.codeIn K cd27 "_law_text_spoilt" = true)
    (k27 : PySem.W.keepIn K (.ref f27) = true)
    (a28 : PySem.W.nsIn K mainGlobals "_law_spoilt" = some (some (.ref f28)))
    (l28 : K.lookup f28 = some ⟨oc28, od28, .func (PySem.W.fnOf "_law_spoilt" "_law_spoilt" (defArgs s_spoilt) (defBody s_spoilt) (defScope s_spoilt) .none kV28 dc28 pm28 an28 cd28 ct28), sl28⟩)
    (c28 : PySem.W.codeIn K cd28 "_law_spoilt" = true)
    (k28 : PySem.W.keepIn K (.ref f28) = true)
    (a29 : PySem.W.nsIn K mainGlobals "law" = some (some (.ref f29)))
    (l29 : K.lookup f29 = some ⟨oc29, od29, .func (PySem.W.fnOf "law" "law" (defArgs s_law) (defBody s_law) (defScope s_law) .none kV29 dc29 pm29 an29 cd29 ct29), sl29⟩)
    (c29 : PySem.W.codeIn K cd29 "law" = true)
    (k29 : PySem.W.keepIn K (.ref f29) = true)
    (z_len : PySem.W.nsIn K mainGlobals "len" = some none)
    (z_repr : PySem.W.nsIn K mainGlobals "repr" = some none)
    (z_abs : PySem.W.nsIn K mainGlobals "abs" = some none)
    (z_max : PySem.W.nsIn K mainGlobals "max" = some none)
    (z_int : PySem.W.nsIn K mainGlobals "int" = some none)
    (z_list : PySem.W.nsIn K mainGlobals "list" = some none)
    (z_range : PySem.W.nsIn K mainGlobals "range" = some none)
    (z_reversed : PySem.W.nsIn K mainGlobals "reversed" = some none)
    (z_min : PySem.W.nsIn K mainGlobals "min" = some none)
    (z_sorted : PySem.W.nsIn K mainGlobals "sorted" = some none)
    (z_tuple : PySem.W.nsIn K mainGlobals "tuple" = some none)
    (z_isinstance : PySem.W.nsIn K mainGlobals "isinstance" = some none)
    (z_all : PySem.W.nsIn K mainGlobals "all" = some none)
    (z_str : PySem.W.nsIn K mainGlobals "str" = some none)
    (z_zip : PySem.W.nsIn K mainGlobals "zip" = some none)
    (aBk : PySem.W.nsIn K mainGlobals "BACKS" = some (some (.ref aB)))
    (lB : K.lookup aB = some ⟨.type "dict", none, .dict es en, #[]⟩)
    (kB : PySem.W.KeysLit w.params es.toList)
    (aS : PySem.W.nsIn K mainGlobals "SMALL" = some (some (.str "abcdef" tS)))
    (kN : es.toList.map keyT = letters)
    (lo : (aB == sysModules) = false)
    (aM : PySem.W.nsIn K mainGlobals "MOST_MANY" = some (some (.int 6 tM)))
    (zV : PySem.W.nsIn K mainGlobals "ValueError" = some none)
    (aCR : PySem.W.nsIn K mainGlobals "RingError" = some (some (.ref CR)))
    (lCR : K.lookup CR = some ⟨.type "type", ddCR, .cls cdCR, #[sCR0, sCR1, sCR2, sCR3, some (.builtin "ValueError.__new__"), sCR5]⟩)
    (mCR : cdCR.mro = .ref CR :: bmV)
    (eCR : cdCR.hasDel = false)
    (dCR : cdCR.hasDict = true)
    (kCR : PySem.W.keepIn K (.ref CR) = true)
    (saCR : PySem.W.findIn K (.ref CR) "__setattr__" = some (some (.builtin "object.__setattr__")))
    (gaCR : PySem.W.findIn K (.ref CR) "__getattribute__" = some (some (.builtin "BaseException.__getattribute__")))
    (gnCR : PySem.W.findIn K (.ref CR) "__getattr__" = some (none))
    (caCR : PySem.W.findIn K (.ref CR) "__class__" = some (some (.builtin "object.__class__")))
    (nCR : cdCR.ns = nsCR)
    (oCR : K.lookup nsCR = some ⟨onCR, dnCR, .dict esCR nnCR, snCR⟩)
    (pCR : (esCR.toList.all fun e => match e.key with | .str _ _ => true | _ => false) = true)
    (qCR : PySem.W.nsIn K nsCR "__init__" = some none)
    (rdCR : PySem.W.readsIn K CR (.type "type") = true)
    (atCR : PySem.W.findCls K (.ref CR) (.type "type") "__init__" = some (.val (.builtin "ValueError.__init__")))
    (gtCR : PySem.W.specialIn K (.ref CR) "__getattribute__" = some (some (.builtin "type.__getattribute__")))
    (hdI : PySem.W.handedIn (.builtin "ValueError.__init__") = true)
    (cgt : PySem.W.specialIn K (.builtin "object.__class__") "__get__" = some (some (.builtin "getset_descriptor.__get__")))
    (ctk : PySem.W.takesIn K (.builtin "object.__class__") = some true)
    (aCT : PySem.W.nsIn K mainGlobals "NoPaper" = some (some (.ref CT)))
    (lCT : K.lookup CT = some ⟨.type "type", ddCT, .cls cdCT, #[sCT0, sCT1, sCT2, sCT3, some (.builtin "ValueError.__new__"), sCT5]⟩)
    (mCT : cdCT.mro = .ref CT :: .ref CR :: bmV)
    (eCT : cdCT.hasDel = false)
    (dCT : cdCT.hasDict = true)
    (kCT : PySem.W.keepIn K (.ref CT) = true)
    (saCT : PySem.W.findIn K (.ref CT) "__setattr__" = some (some (.builtin "object.__setattr__")))
    (gaCT : PySem.W.findIn K (.ref CT) "__getattribute__" = some (some (.builtin "BaseException.__getattribute__")))
    (gnCT : PySem.W.findIn K (.ref CT) "__getattr__" = some (none))
    (caCT : PySem.W.findIn K (.ref CT) "__class__" = some (some (.builtin "object.__class__")))
    (xCT0 : PySem.W.findIn K (.ref CT) "word" = some none)
    (xCT1 : PySem.W.findIn K (.ref CT) "at" = some none)
    (iCT : PySem.W.findIn K (.ref CT) "__init__" = some (some (.ref fCT)))
    (uCT : K.lookup fCT = some ⟨ocCT, odCT, .func (PySem.W.fnOf "__init__" "NoPaper.__init__" (defArgs i_paper) (defBody i_paper) (defScope i_paper) .none kVCT dcCT pmCT anCT cvCT ctCT), slCT⟩)
    (vCT : PySem.W.codeIn K cvCT "NoPaper.__init__" = true)
    (wCT : PySem.W.keepIn K (.ref fCT) = true)
    (jCT : PySem.W.isFn K (.ref fCT) = true)
    (ak0 : PySem.W.nsIn K mainGlobals "NoBand" = some (some (.ref ck0)))
    (ak1 : PySem.W.nsIn K mainGlobals "NoRow" = some (some (.ref ck1)))
    (ak2 : PySem.W.nsIn K mainGlobals "NoSlide" = some (some (.ref ck2)))
    (ak3 : PySem.W.nsIn K mainGlobals "NoStep" = some (some (.ref ck3)))
    (ak4 : PySem.W.nsIn K mainGlobals "NoSurface" = some (some (.ref ck4)))
    (ak5 : PySem.W.nsIn K mainGlobals "NoText" = some (some (.ref ck5)))
    (ak6 : PySem.W.nsIn K mainGlobals "NoThin" = some (some (.ref ck6)))
    (ak7 : PySem.W.nsIn K mainGlobals "NoWay" = some (some (.ref ck7)))
    (lk0 : K.lookup ck0 = some ⟨.type "type", dk0, .cls xk0, sk0⟩)
    (nk0 : (Value.ref CT :: .ref CR :: bmV).contains (.ref ck0) = false)
    (lk1 : K.lookup ck1 = some ⟨.type "type", dk1, .cls xk1, sk1⟩)
    (nk1 : (Value.ref CT :: .ref CR :: bmV).contains (.ref ck1) = false)
    (lk2 : K.lookup ck2 = some ⟨.type "type", dk2, .cls xk2, sk2⟩)
    (nk2 : (Value.ref CT :: .ref CR :: bmV).contains (.ref ck2) = false)
    (lk3 : K.lookup ck3 = some ⟨.type "type", dk3, .cls xk3, sk3⟩)
    (nk3 : (Value.ref CT :: .ref CR :: bmV).contains (.ref ck3) = false)
    (lk4 : K.lookup ck4 = some ⟨.type "type", dk4, .cls xk4, sk4⟩)
    (nk4 : (Value.ref CT :: .ref CR :: bmV).contains (.ref ck4) = false)
    (lk5 : K.lookup ck5 = some ⟨.type "type", dk5, .cls xk5, sk5⟩)
    (nk5 : (Value.ref CT :: .ref CR :: bmV).contains (.ref ck5) = false)
    (lk6 : K.lookup ck6 = some ⟨.type "type", dk6, .cls xk6, sk6⟩)
    (nk6 : (Value.ref CT :: .ref CR :: bmV).contains (.ref ck6) = false)
    (lk7 : K.lookup ck7 = some ⟨.type "type", dk7, .cls xk7, sk7⟩)
    (nk7 : (Value.ref CT :: .ref CR :: bmV).contains (.ref ck7) = false)
    (gl0 : PySem.W.nsIn K aB "a" = some (some (.str "A" t0)))
    (gl1 : PySem.W.nsIn K aB "b" = some (some (.str "B" t1)))
    (gl2 : PySem.W.nsIn K aB "c" = some (some (.str "C" t2)))
    (gl3 : PySem.W.nsIn K aB "d" = some (some (.str "D" t3)))
    (gl4 : PySem.W.nsIn K aB "e" = some (some (.str "E" t4)))
    (gl5 : PySem.W.nsIn K aB "f" = some (some (.str "F" t5)))
    (gl6 : PySem.W.nsIn K aB "A" = some (some (.str "a" t6)))
    (gl7 : PySem.W.nsIn K aB "B" = some (some (.str "b" t7)))
    (gl8 : PySem.W.nsIn K aB "C" = some (some (.str "c" t8)))
    (gl9 : PySem.W.nsIn K aB "D" = some (some (.str "d" t9)))
    (gl10 : PySem.W.nsIn K aB "E" = some (some (.str "e" t10)))
    (gl11 : PySem.W.nsIn K aB "F" = some (some (.str "f" t11))) :
    ∃ fd : FuncData, (∀ (s : Shared) (v : Value), BindsTo s fd ⟨[v], []⟩ [("_law_script", v)]) ∧ ∀ base : Heap, K.In base → base.Ns mainGlobals mg → FnOk l.prog w K mg base CX0 9 fa fd ["_law_script"] (spLaw K) := by
  have e := hfa.symm.trans (PySem.W.mg_of X G a29)
  cases e
  have gB : ∀ x : L, ∃ t, PySem.W.nsIn K aB (toS [x]) = some (some (.str (toS [inv x]) t)) := by
    have q : ∀ (x : L) (u v : Str) (t : Tok), PySem.W.nsIn K aB u = some (some (.str v t)) → toS [x] = u → toS [inv x] = v → ∃ t, PySem.W.nsIn K aB (toS [x]) = some (some (.str (toS [inv x]) t)) := fun x u v t g e1 e2 => ⟨t, by rw [e1, e2]; exact g⟩
    intro x
    match x with
    | ⟨0, _⟩ => exact q 0 "a" "A" _ gl0 (by decide +kernel) (by decide +kernel)
    | ⟨1, _⟩ => exact q 1 "b" "B" _ gl1 (by decide +kernel) (by decide +kernel)
    | ⟨2, _⟩ => exact q 2 "c" "C" _ gl2 (by decide +kernel) (by decide +kernel)
    | ⟨3, _⟩ => exact q 3 "d" "D" _ gl3 (by decide +kernel) (by decide +kernel)
    | ⟨4, _⟩ => exact q 4 "e" "E" _ gl4 (by decide +kernel) (by decide +kernel)
    | ⟨5, _⟩ => exact q 5 "f" "F" _ gl5 (by decide +kernel) (by decide +kernel)
    | ⟨6, _⟩ => exact q 6 "A" "a" _ gl6 (by decide +kernel) (by decide +kernel)
    | ⟨7, _⟩ => exact q 7 "B" "b" _ gl7 (by decide +kernel) (by decide +kernel)
    | ⟨8, _⟩ => exact q 8 "C" "c" _ gl8 (by decide +kernel) (by decide +kernel)
    | ⟨9, _⟩ => exact q 9 "D" "d" _ gl9 (by decide +kernel) (by decide +kernel)
    | ⟨10, _⟩ => exact q 10 "E" "e" _ gl10 (by decide +kernel) (by decide +kernel)
    | ⟨11, _⟩ => exact q 11 "F" "f" _ gl11 (by decide +kernel) (by decide +kernel)
  have T : Bt K w mg aB := ⟨PySem.W.mg_none_of X G z_len, PySem.W.mg_none_of X G z_repr, PySem.W.mg_none_of X G z_abs, PySem.W.mg_none_of X G z_max, PySem.W.mg_none_of X G z_int, PySem.W.mg_none_of X G z_list, PySem.W.mg_none_of X G z_range, PySem.W.mg_none_of X G z_reversed, PySem.W.mg_none_of X G z_min, PySem.W.mg_none_of X G z_sorted, PySem.W.mg_none_of X G z_tuple, PySem.W.mg_none_of X G z_isinstance, PySem.W.mg_none_of X G z_all, PySem.W.mg_none_of X G z_str, PySem.W.mg_none_of X G z_zip, PySem.W.mg_of X G aBk, ⟨es, en, lB, kB⟩, gB⟩
  have B : Bk K aB := bk_mk lo lB kB kN
  have S : ∃ t, mg "SMALL" = some (.str "abcdef" t) := ⟨_, PySem.W.mg_of X G aS⟩
  have MM : ∃ t, mg "MOST_MANY" = some (.int 6 t) := ⟨_, PySem.W.mg_of X G aM⟩
  have XCR : XCl K CR bmV := xcl_of lCR mCR eCR dCR tail_base kCR
  have ACR : XAt K CR := ⟨⟨_, XCR⟩, saCR, gaCR, gnCR⟩
  have GCR : mg "RingError" = some (.ref CR) := PySem.W.mg_of X G aCR
  have BCR : XBase K CR := ⟨rdCR, atCR, gtCR, hdI⟩
  have XCT : XCl K CT (.ref CR :: bmV) := xcl_of lCT mCT eCT dCT (tail_own lCR (by rw [nCR]; exact nsok_of oCR pCR) (by rw [nCR]; exact qCR) tail_base) kCT
  have ACT : XAt K CT := ⟨⟨_, XCT⟩, saCT, gaCT, gnCT⟩
  have CCT : XCa K CT := ⟨ACT, caCT, cgt, ctk⟩
  have ICT := fun base : Heap => c_ipaper (P := l.prog) (w := w) (mg := mg) (base := base) (fun_mk uCT vCT wCT) BCR GCR ACT xCT0 xCT1
  have MCT : ∀ base : Heap, XMk l.prog w K mg base "NoPaper" CT ["word", "at"] 1 := fun base => ⟨PySem.W.mg_of X G aCT, CCT, by intro f hf; simp only [List.mem_cons, List.not_mem_nil, or_false] at hf; rcases hf with rfl | rfl <;> assumption, ⟨_, _, _, XCT, iCT, jCT, (ICT base).1, (ICT base).2⟩⟩
  have kA := kit_aside (Rs := [ck0, ck1, ck2, ck3, ck4, ck5, ck6, ck7]) XCT (by intro R hR; simp only [List.mem_cons, List.not_mem_nil, or_false] at hR; rcases hR with rfl | rfl | rfl | rfl | rfl | rfl | rfl | rfl; exact ⟨⟨_, _, _, lk0⟩, nk0⟩; exact ⟨⟨_, _, _, lk1⟩, nk1⟩; exact ⟨⟨_, _, _, lk2⟩, nk2⟩; exact ⟨⟨_, _, _, lk3⟩, nk3⟩; exact ⟨⟨_, _, _, lk4⟩, nk4⟩; exact ⟨⟨_, _, _, lk5⟩, nk5⟩; exact ⟨⟨_, _, _, lk6⟩, nk6⟩; exact ⟨⟨_, _, _, lk7⟩, nk7⟩)
  have TCL : TC K mg CT CR (.ref CR :: bmV) bmV (fun n => [ck0, ck1, ck2, ck3, ck4, ck5, ck6, ck7].getD n ck0) := ⟨PySem.W.mg_of X G aCT, PySem.W.mg_of X G aCR, PySem.W.mg_none_of X G zV, PySem.W.mg_of X G ak0, PySem.W.mg_of X G ak1, PySem.W.mg_of X G ak2, PySem.W.mg_of X G ak3, PySem.W.mg_of X G ak4, PySem.W.mg_of X G ak5, PySem.W.mg_of X G ak6, PySem.W.mg_of X G ak7, XCT, by simp, kA, kit_self, kit_ty X XCT rfl rfl, CCT, xCT0, xCT1⟩
  refine ⟨PySem.W.fnOf "law" "law" (defArgs s_law) (defBody s_law) (defScope s_law) .none kV29 dc29 pm29 an29 cd29 ct29, fun s v => .of_eq rfl, fun base _ _ => ?_⟩
  have F_letter := c_letter (P := l.prog) (w := w) (base := base) (df_mk X G a0 l0 c0 k0) T B
  have F_num := c_num (P := l.prog) (w := w) (base := base) (df_mk X G a2 l2 c2 k2) T S
  have F_word := c_word (P := l.prog) (w := w) (base := base) (df_mk X G a1 l1 c1 k1) T F_letter F_num
  have F_back := c_back (P := l.prog) (w := w) (base := base) (df_mk X G a3 l3 c3 k3) T
  have F_red := c_red (P := l.prog) (w := w) (base := base) (df_mk X G a4 l4 c4 k4) T
  have F_core := c_core (P := l.prog) (w := w) (base := base) (df_mk X G a5 l5 c5 k5) T F_back F_red
  have F_leastp := c_leastp (P := l.prog) (w := w) (base := base) (df_mk X G a7 l7 c7 k7) T
  have F_least := c_least (P := l.prog) (w := w) (base := base) (df_mk X G a6 l6 c6 k6) T F_leastp
  have F_lm := c_lm (P := l.prog) (w := w) (base := base) (df_mk X G a13 l13 c13 k13) T F_core F_least
  have F_ap := c_ap (P := l.prog) (w := w) (base := base) (df_mk X G a9 l9 c9 k9) T MM F_word
  have F_up := c_up (P := l.prog) (w := w) (base := base) (df_mk X G a10 l10 c10 k10) T MM F_word
  have F_la := c_la (P := l.prog) (w := w) (base := base) (df_mk X G a11 l11 c11 k11) F_back F_red (MCT _)
  have F_lu := c_lu (P := l.prog) (w := w) (base := base) (df_mk X G a12 l12 c12 k12) F_lm (MCT _)
  have F_lets := c_lets (P := l.prog) (w := w) (base := base) (df_mk X G a8 l8 c8 k8) T F_ap F_up F_la F_lu (MCT _)
  have F_turning := c_turning (P := l.prog) (w := w) (base := base) (df_mk X G a14 l14 c14 k14) T F_back F_red F_core F_lm
  have F_feed := c_feed (P := l.prog) (w := w) (base := base) (df_mk X G a15 l15 c15 k15) T
  have F_draw := c_draw (P := l.prog) (w := w) (base := base) (df_mk X G a16 l16 c16 k16) T
  have F_lback := c_lback (P := l.prog) (w := w) (base := base) (df_mk X G a17 l17 c17 k17) 
  have F_lred := c_lred (P := l.prog) (w := w) (base := base) (df_mk X G a18 l18 c18 k18) T F_lback
  have F_some := c_some (P := l.prog) (w := w) (base := base) (df_mk X G a19 l19 c19 k19) T F_draw
  have F_drawn := c_drawn (P := l.prog) (w := w) (base := base) (df_mk X G a20 l20 c20 k20) T F_draw F_lback F_some
  have F_ll := c_ll (P := l.prog) (w := w) (base := base) (df_mk X G a21 l21 c21 k21) T F_lback F_lred
  have F_lisw := c_lisw (P := l.prog) (w := w) (base := base) (df_mk X G a22 l22 c22 k22) T
  have F_due := c_due (P := l.prog) (w := w) (base := base) (df_mk X G a23 l23 c23 k23) T F_lback F_lred F_ll F_lisw
  have F_told := c_told (P := l.prog) (w := w) (base := base) (df_mk X G a24 l24 c24 k24) T TCL XCR F_lets
  have F_bent := c_bent (P := l.prog) (w := w) (base := base) (df_mk X G a25 l25 c25 k25) T F_draw
  have F_sign := c_sign (P := l.prog) (w := w) (base := base) (df_mk X G a26 l26 c26 k26) T F_draw
  have F_texts := c_texts (P := l.prog) (w := w) (base := base) (df_mk X G a27 l27 c27 k27) T F_draw F_sign
  have F_spoilt := c_spoilt (P := l.prog) (w := w) (base := base) (df_mk X G a28 l28 c28 k28) T F_draw F_texts
  exact c_law (fun_mk l29 c29 k29) T F_turning F_feed F_draw F_lback F_some F_drawn F_ll F_due F_told F_bent F_spoilt
theorem walk {l : PySem.W.OpenLaw} {q : Program} {loose : List Str} {XP : (Str → Option Value) → Heap → Prop} {YP : World → Heap → Prop} {d : DefRec} {K : Params → PySem.W.Frag} (hn : l.most = some 63) (hdf : d.params.defaults = [])
    (hY : ∀ (w : World) (h : Heap), YP w h → (K w.params).In h)
    (F : ∀ (w : World) (mg : Str → Option Value) (fa : Addr) (h : Heap), (K w.params).In h → h.Ns mainGlobals mg → mg d.name = some (.ref fa) →
      ∃ fd : FuncData, (∀ (s : Shared) (u : Value), BindsTo s fd ⟨[u], []⟩ [("_law_script", u)]) ∧ ∀ base : Heap, (K w.params).In base → base.Ns mainGlobals mg → FnOk l.prog w (K w.params) mg base CX0 9 fa fd ["_law_script"] (spLaw (K w.params))) :
    PySem.W.WalkO q loose XP YP l.row.toRowW d [] (fun f vs => PySem.call f vs) :=
  L2.walk_of (n := 63) (k := 9) (x := "_law_script") (CX := fun _ => CX0) (sp := fun w => spLaw (K w.params)) hn (by decide) hdf ⟨rfl, by decide, by decide, rfl⟩ hY F (fun _ _ a ns hl _ hS => ⟨a, ns, rfl, hS, hl, fun _ => rfl⟩) fun _ _ _ _ _ z => z
end Kx
namespace Kx
open PySem
noncomputable def fastS (s : String) : Str := ⟨⟨PySem.W.R.mapR Char.toNat (PySem.W.S.toListS s)⟩⟩
theorem fastS_eq : Str.ofString = fastS := by
  funext s
  rw [Str.ofString_eq_toList, PySem.W.S.toListS_eq]
  show _ = (⟨⟨PySem.W.R.mapR Char.toNat (PySem.W.S.toListS s)⟩⟩ : Str)
  rw [← PySem.W.R.mapR_eq]
noncomputable def apG (G : (String → Str) → Program) (x : String → Str) : Program := G x
noncomputable def Gs : { G : (String → Str) → Program // apG G Str.ofString = PySem.Challenge.pw_ringwords_k23_turning_papers } := by
  refine ⟨?G, ?h⟩
  case h =>
    delta PySem.Challenge.pw_ringwords_k23_turning_papers
    generalize Str.ofString = x
    exact rfl
end Kx
noncomputable def PySem.W.Fast.tw1465086934267384822 : PySem.Program := Kx.Gs.1 Kx.fastS
theorem PySem.W.Fast.te1465086934267384822 : PySem.Challenge.pw_ringwords_k23_turning_papers = PySem.W.Fast.tw1465086934267384822 := Kx.Gs.2.symm.trans (congrArg (Kx.apG Kx.Gs.1) Kx.fastS_eq)
theorem PySem.W.Fast.te3138922312487198527 : True := trivial
theorem PySem.W.Fast.tw1199607343184955754 : True := trivial
theorem PySem.W.Fast.tw5056960140279929688 : True := trivial
theorem PySem.W.Fast.tw5161538214691739389 : True := trivial
theorem PySem.W.Fast.tw11130301748540377918 : True := trivial
theorem PySem.W.Fast.tw3986639762899468288 : True := trivial
theorem PySem.W.Fast.tw7618569176293709636 : True := trivial
theorem PySem.W.Fast.tw2183056552507071900 : True := trivial
theorem PySem.W.Fast.tw2033453688306185370 : True := trivial
theorem PySem.W.Fast.tw18168602687869424505 : True := trivial
theorem PySem.W.Fast.tw8506889569302046488 : True := trivial
theorem PySem.W.Fast.tw7893811203461713073 : True := trivial
theorem PySem.W.Fast.tw1200673885308734572 : True := trivial
theorem PySem.W.Fast.tw8802294959953742793 : True := trivial
theorem PySem.W.Fast.tw5301893441228083718 : True := trivial
theorem PySem.W.Fast.tw8061044349532594947 : True := trivial
theorem PySem.W.Fast.tw13536018827976811740 : True := trivial
theorem PySem.W.Fast.tw17866695750369999447 : True := trivial
theorem PySem.W.Fast.tw951160671875707632 : True := trivial
theorem PySem.W.Fast.tw7029909548667581350 : True := trivial
theorem PySem.W.Fast.tw3698979287993805246 : True := trivial
theorem PySem.W.Fast.tw18285557051502665140 : True := trivial
open PySem PySem.W PyProof.Rows
set_option maxRecDepth 100000 in
set_option maxHeartbeats 0 in
theorem PySem.Challenge.cw_ringwords_k23_turning_papers_holds : PySem.Challenge.rw_ringwords_k23_turning_papers.Holds := by
  w_on; o_law; k_head; (case hw => w_witness2)
  k_fill
  refine Kx.walk (l := PySem.Challenge.rw_ringwords_k23_turning_papers) rfl rfl (fun w h Y => PySem.W.kIn_of Y) ?F
  case F =>
    intro w mg fa h KX G hmg
    refine' Kx.all_mk KX G hmg ?a0 ?l0 ?c0 ?k0 ?a1 ?l1 ?c1 ?k1 ?a2 ?l2 ?c2 ?k2 ?a3 ?l3 ?c3 ?k3 ?a4 ?l4 ?c4 ?k4 ?a5 ?l5 ?c5 ?k5 ?a6 ?l6 ?c6 ?k6 ?a7 ?l7 ?c7 ?k7 ?a8 ?l8 ?c8 ?k8 ?a9 ?l9 ?c9 ?k9 ?a10 ?l10 ?c10 ?k10 ?a11 ?l11 ?c11 ?k11 ?a12 ?l12 ?c12 ?k12 ?a13 ?l13 ?c13 ?k13 ?a14 ?l14 ?c14 ?k14 ?a15 ?l15 ?c15 ?k15 ?a16 ?l16 ?c16 ?k16 ?a17 ?l17 ?c17 ?k17 ?a18 ?l18 ?c18 ?k18 ?a19 ?l19 ?c19 ?k19 ?a20 ?l20 ?c20 ?k20 ?a21 ?l21 ?c21 ?k21 ?a22 ?l22 ?c22 ?k22 ?a23 ?l23 ?c23 ?k23 ?a24 ?l24 ?c24 ?k24 ?a25 ?l25 ?c25 ?k25 ?a26 ?l26 ?c26 ?k26 ?a27 ?l27 ?c27 ?k27 ?a28 ?l28 ?c28 ?k28 ?a29 ?l29 ?c29 ?k29 ?z_len ?z_repr ?z_abs ?z_max ?z_int ?z_list ?z_range ?z_reversed ?z_min ?z_sorted ?z_tuple ?z_isinstance ?z_all ?z_str ?z_zip ?aBk ?lB ?kB ?aS ?kN ?lo ?aM ?zV ?aCR ?lCR ?mCR ?eCR ?dCR ?kCR ?saCR ?gaCR ?gnCR ?caCR ?nCR ?oCR ?pCR ?qCR ?rdCR ?atCR ?gtCR ?hdI ?cgt ?ctk ?aCT ?lCT ?mCT ?eCT ?dCT ?kCT ?saCT ?gaCT ?gnCT ?caCT ?xCT0 ?xCT1 ?iCT ?uCT ?vCT ?wCT ?jCT ?ak0 ?ak1 ?ak2 ?ak3 ?ak4 ?ak5 ?ak6 ?ak7 ?lk0 ?nk0 ?lk1 ?nk1 ?lk2 ?nk2 ?lk3 ?nk3 ?lk4 ?nk4 ?lk5 ?nk5 ?lk6 ?nk6 ?lk7 ?nk7 ?gl0 ?gl1 ?gl2 ?gl3 ?gl4 ?gl5 ?gl6 ?gl7 ?gl8 ?gl9 ?gl10 ?gl11
    (case a0 => k_is)
    (case l0 => k_is)
    (case c0 => k_is)
    (case k0 => k_is)
    (case a1 => k_is)
    (case l1 => k_is)
    (case c1 => k_is)
    (case k1 => k_is)
    (case a2 => k_is)
    (case l2 => k_is)
    (case c2 => k_is)
    (case k2 => k_is)
    (case a3 => k_is)
    (case l3 => k_is)
    (case c3 => k_is)
    (case k3 => k_is)
    (case a4 => k_is)
    (case l4 => k_is)
    (case c4 => k_is)
    (case k4 => k_is)
    (case a5 => k_is)
    (case l5 => k_is)
    (case c5 => k_is)
    (case k5 => k_is)
    (case a6 => k_is)
    (case l6 => k_is)
    (case c6 => k_is)
    (case k6 => k_is)
    (case a7 => k_is)
    (case l7 => k_is)
    (case c7 => k_is)
    (case k7 => k_is)
    (case a8 => k_is)
    (case l8 => k_is)
    (case c8 => k_is)
    (case k8 => k_is)
    (case a9 => k_is)
    (case l9 => k_is)
    (case c9 => k_is)
    (case k9 => k_is)
    (case a10 => k_is)
    (case l10 => k_is)
    (case c10 => k_is)
    (case k10 => k_is)
    (case a11 => k_is)
    (case l11 => k_is)
    (case c11 => k_is)
    (case k11 => k_is)
    (case a12 => k_is)
    (case l12 => k_is)
    (case c12 => k_is)
    (case k12 => k_is)
    (case a13 => k_is)
    (case l13 => k_is)
    (case c13 => k_is)
    (case k13 => k_is)
    (case a14 => k_is)
    (case l14 => k_is)
    (case c14 => k_is)
    (case k14 => k_is)
    (case a15 => k_is)
    (case l15 => k_is)
    (case c15 => k_is)
    (case k15 => k_is)
    (case a16 => k_is)
    (case l16 => k_is)
    (case c16 => k_is)
    (case k16 => k_is)
    (case a17 => k_is)
    (case l17 => k_is)
    (case c17 => k_is)
    (case k17 => k_is)
    (case a18 => k_is)
    (case l18 => k_is)
    (case c18 => k_is)
    (case k18 => k_is)
    (case a19 => k_is)
    (case l19 => k_is)
    (case c19 => k_is)
    (case k19 => k_is)
    (case a20 => k_is)
    (case l20 => k_is)
    (case c20 => k_is)
    (case k20 => k_is)
    (case a21 => k_is)
    (case l21 => k_is)
    (case c21 => k_is)
    (case k21 => k_is)
    (case a22 => k_is)
    (case l22 => k_is)
    (case c22 => k_is)
    (case k22 => k_is)
    (case a23 => k_is)
    (case l23 => k_is)
    (case c23 => k_is)
    (case k23 => k_is)
    (case a24 => k_is)
    (case l24 => k_is)
    (case c24 => k_is)
    (case k24 => k_is)
    (case a25 => k_is)
    (case l25 => k_is)
    (case c25 => k_is)
    (case k25 => k_is)
    (case a26 => k_is)
    (case l26 => k_is)
    (case c26 => k_is)
    (case k26 => k_is)
    (case a27 => k_is)
    (case l27 => k_is)
    (case c27 => k_is)
    (case k27 => k_is)
    (case a28 => k_is)
    (case l28 => k_is)
    (case c28 => k_is)
    (case k28 => k_is)
    (case a29 => k_is)
    (case l29 => k_is)
    (case c29 => k_is)
    (case k29 => k_is)
    (case z_len => k_is)
    (case z_repr => k_is)
    (case z_abs => k_is)
    (case z_max => k_is)
    (case z_int => k_is)
    (case z_list => k_is)
    (case z_range => k_is)
    (case z_reversed => k_is)
    (case z_min => k_is)
    (case z_sorted => k_is)
    (case z_tuple => k_is)
    (case z_isinstance => k_is)
    (case z_all => k_is)
    (case z_str => k_is)
    (case z_zip => k_is)
    (case aBk => k_is)
    (case lB => k_is)
    (case kB => exact ⟨⟨_, _, rfl, rfl⟩, ⟨_, _, rfl, rfl⟩, ⟨_, _, rfl, rfl⟩, ⟨_, _, rfl, rfl⟩, ⟨_, _, rfl, rfl⟩, ⟨_, _, rfl, rfl⟩, ⟨_, _, rfl, rfl⟩, ⟨_, _, rfl, rfl⟩, ⟨_, _, rfl, rfl⟩, ⟨_, _, rfl, rfl⟩, ⟨_, _, rfl, rfl⟩, ⟨_, _, rfl, rfl⟩, trivial⟩)
    (case aS => k_is)
    (case kN => rfl)
    (case lo => rfl)
    (case aM => k_is)
    (case zV => k_is)
    (case aCR => k_is)
    (case lCR => k_is)
    (case mCR => rfl)
    (case eCR => rfl)
    (case dCR => rfl)
    (case kCR => k_is)
    (case saCR => k_is)
    (case gaCR => k_is)
    (case gnCR => k_is)
    (case caCR => k_is)
    (case nCR => rfl)
    (case oCR => k_is)
    (case pCR => rfl)
    (case qCR => k_is)
    (case rdCR => k_is)
    (case atCR => k_is)
    (case gtCR => k_is)
    (case hdI => rfl)
    (case cgt => k_is)
    (case ctk => k_is)
    (case aCT => k_is)
    (case lCT => k_is)
    (case mCT => rfl)
    (case eCT => rfl)
    (case dCT => rfl)
    (case kCT => k_is)
    (case saCT => k_is)
    (case gaCT => k_is)
    (case gnCT => k_is)
    (case caCT => k_is)
    (case xCT0 => k_is)
    (case xCT1 => k_is)
    (case iCT => k_is)
    (case uCT => k_is)
    (case vCT => k_is)
    (case wCT => k_is)
    (case jCT => k_is)
    (case ak0 => k_is)
    (case ak1 => k_is)
    (case ak2 => k_is)
    (case ak3 => k_is)
    (case ak4 => k_is)
    (case ak5 => k_is)
    (case ak6 => k_is)
    (case ak7 => k_is)
    (case lk0 => k_is)
    (case nk0 => rfl)
    (case lk1 => k_is)
    (case nk1 => rfl)
    (case lk2 => k_is)
    (case nk2 => rfl)
    (case lk3 => k_is)
    (case nk3 => rfl)
    (case lk4 => k_is)
    (case nk4 => rfl)
    (case lk5 => k_is)
    (case nk5 => rfl)
    (case lk6 => k_is)
    (case nk6 => rfl)
    (case lk7 => k_is)
    (case nk7 => rfl)
    (case gl0 => k_is)
    (case gl1 => k_is)
    (case gl2 => k_is)
    (case gl3 => k_is)
    (case gl4 => k_is)
    (case gl5 => k_is)
    (case gl6 => k_is)
    (case gl7 => k_is)
    (case gl8 => k_is)
    (case gl9 => k_is)
    (case gl10 => k_is)
    (case gl11 => k_is)
