import PyProof.Rows.All
import Wide.All
import OpenK.AllK
import Wide.FinOn
import Lean
import PyProof.EqAt
import PyProof.EqKinds
import PyProof.TupleCall
import KE.KRevIter
import PyProof.FString5
import PyProof.NeData
import PyProof.TupleOfStr
import PyProof.IsRules
import PySem.Challenge.RW_ringwords_k76_caps
set_option Elab.async false
set_option linter.all false
set_option maxRecDepth 100000
/-! THE HAND LAYER, for ints, bools, texts, own classes, LISTS and tuples (index, slices, in, append, pop ..), calls, loops. Paste it whole ahead of your own text; what your proof does not reach may be deleted. -/
namespace L2
open PySem PySem.Spec PyProof.Rows

/-- a key: an int or a str -/
abbrev Key := Sum Int Str
def keyIs : Key → Value → Bool
  | .inl k, v => Value.isInt k v
  | .inr x, v => Value.isStrOf x v
def keyH (w : World) : Key → Int
  | .inl k => hashInt k
  | .inr x => hashStr w x
theorem keyIs_shape : ∀ {k : Key} {v : Value}, keyIs k v = true → (∃ i t, k = Sum.inl i ∧ v = Value.int i t) ∨ (∃ x t, k = Sum.inr x ∧ v = Value.str x t)
  | .inl i, v, h => by
    obtain ⟨t, e⟩ := Value.isInt_shape (k := i) (v := v) h
    exact .inl ⟨i, t, rfl, e⟩
  | .inr x, v, h => by
    obtain ⟨t, e⟩ := Value.isStrOf_shape (x := x) (v := v) h
    exact .inr ⟨x, t, rfl, e⟩
theorem keyIs_int (i : Int) (t : Tok) : keyIs (.inl i) (.int i t) = true := by simp [keyIs, Value.isInt]
theorem keyIs_str (x : Str) (t : Tok) : keyIs (.inr x) (.str x t) = true := by simp [keyIs, Value.isStrOf]
theorem key_ll (a b : Int) : decide ((Sum.inl a : Key) = Sum.inl b) = (a == b) := by
  by_cases e : a = b
  · subst e; simp
  · have h : ¬ (Sum.inl a : Key) = Sum.inl b := fun q => e (Sum.inl.inj q)
    rw [decide_eq_false h]
    exact (beq_eq_false_iff_ne.mpr e).symm
theorem key_rr (a b : Str) : decide ((Sum.inr a : Key) = Sum.inr b) = decide (a = b) := by
  by_cases e : a = b
  · subst e; simp
  · have h : ¬ (Sum.inr a : Key) = Sum.inr b := fun q => e (Sum.inr.inj q)
    rw [decide_eq_false h, decide_eq_false e]
theorem key_lr (a : Int) (b : Str) : decide ((Sum.inl a : Key) = Sum.inr b) = false := decide_eq_false (fun q => nomatch q)
theorem key_rl (a : Str) (b : Int) : decide ((Sum.inr a : Key) = Sum.inl b) = false := decide_eq_false (fun q => nomatch q)

def mixKind (prog : Program) (w : World) : PySem.KeyKind prog w Key where
  is := keyIs
  hash := keyH w
  inj := fun v a b ha hb => by
    rcases keyIs_shape ha with ⟨i, t, rfl, rfl⟩ | ⟨x, t, rfl, rfl⟩
    · rcases keyIs_shape hb with ⟨j, u, rfl, e⟩ | ⟨y, u, rfl, e⟩
      · injection e with e1 _; rw [e1]
      · exact nomatch e
    · rcases keyIs_shape hb with ⟨j, u, rfl, e⟩ | ⟨y, u, rfl, e⟩
      · exact nomatch e
      · injection e with e1 _; rw [e1]
  byValue := fun k v h => by
    rcases keyIs_shape h with ⟨i, t, rfl, rfl⟩ | ⟨x, t, rfl, rfl⟩ <;> rfl
  pyHash := fun hv h => by
    rcases keyIs_shape hv with ⟨i, t, rfl, rfl⟩ | ⟨x, t, rfl, rfl⟩
    · exact wpAny_pyHash_int h
    · exact wpAny_pyHash_str h
  eqBool := fun hu hv h => by
    rcases keyIs_shape hu with ⟨i, t, rfl, rfl⟩ | ⟨x, t, rfl, rfl⟩
    · rcases keyIs_shape hv with ⟨j, u, rfl, rfl⟩ | ⟨y, u, rfl, rfl⟩
      · rw [key_ll] at h; exact wpAny_eqBool_int h
      · rw [key_lr] at h; exact SeqAt.EqAt.int_str i t y u _ _ _ _ h
    · rcases keyIs_shape hv with ⟨j, u, rfl, rfl⟩ | ⟨y, u, rfl, rfl⟩
      · rw [key_rl] at h; exact SeqAt.EqAt.str_int x t j u _ _ _ _ h
      · rw [key_rr] at h; exact wpAny_eqBool_str h
  «strs» := fun k x t v h => by
    rcases keyIs_shape h with ⟨i, u, rfl, e⟩ | ⟨y, u, rfl, e⟩
    · exact nomatch e
    · injection e with e1 _
      subst e1
      cases v <;> rfl

theorem mixKind_int (prog : Program) (w : World) (i : Int) (t : Tok) : (mixKind prog w).is (.inl i) (.int i t) = true := keyIs_int i t
theorem mixKind_str (prog : Program) (w : World) (x : Str) (t : Tok) : (mixKind prog w).is (.inr x) (.str x t) = true := keyIs_str x t
end L2

namespace L2
open PySem PySem.Spec PyProof.Rows

/-- a value, without the heap -/
inductive V where
  | non | bl (b : Bool) | int (i : Int) | str (x : Str) | byt (b : Array UInt8) | flt (b : UInt64) | ref (a : Addr) | ty (n : String)
  deriving DecidableEq

def RelV : V → Value → Prop
  | .non, u => u = Value.none
  | .bl b, u => u = Value.bool b
  | .int i, u => ∃ t, u = Value.int i t
  | .str x, u => ∃ t, u = Value.str x t
  | .byt b, u => ∃ t, u = Value.bytes b t
  | .flt b, u => ∃ t, u = Value.float b t
  | .ref a, u => u = Value.ref a
  | .ty n, u => u = Value.type n

abbrev Vals : List V → List Value → Prop := Paired RelV
theorem Vals.length {xs : List V} {us : List Value} (r : Vals xs us) : xs.length = us.length := Paired.length r
theorem Vals.get : ∀ {xs : List V} {us : List Value} {i : Nat} {x : V}, Vals xs us → xs[i]? = some x → ∃ u, us[i]? = some u ∧ RelV x u
  | _, _, _, _, .nil, e => by simp at e
  | _, _, 0, _, .cons r _, e => by simp at e; subst e; exact ⟨_, rfl, r⟩
  | _, _, i + 1, x, .cons _ t, e => by
    obtain ⟨u, h1, h2⟩ := Vals.get (i := i) (x := x) t (by simpa using e)
    exact ⟨u, by simpa using h1, h2⟩
theorem Vals.append : ∀ {xs ys : List V} {us ws : List Value}, Vals xs us → Vals ys ws → Vals (xs ++ ys) (us ++ ws)
  | _, _, _, _, .nil, s => s
  | _, _, _, _, .cons r t, s => .cons r (Vals.append t s)
theorem Vals.take : ∀ {xs : List V} {us : List Value} (n : Nat), Vals xs us → Vals (xs.take n) (us.take n)
  | _, _, 0, _ => .nil
  | _, _, _ + 1, .nil => .nil
  | _, _, n + 1, .cons r t => .cons r (Vals.take n t)
theorem Vals.drop : ∀ {xs : List V} {us : List Value} (n : Nat), Vals xs us → Vals (xs.drop n) (us.drop n)
  | _, _, 0, r => r
  | _, _, _ + 1, .nil => .nil
  | _, _, n + 1, .cons _ t => Vals.drop n t

def RelO : Option V → Option Value → Prop
  | some v, some u => RelV v u
  | none, none => True
  | _, _ => False
def KV {κ : Type} : List (κ × V) → List (κ × Value) → Prop := Paired fun (p : κ × V) (q : κ × Value) => p.1 = q.1 ∧ RelV p.2 q.2

/-- a key of a dict (00_mix): an int or a text -/
def kV : Key → V
  | .inl i => .int i
  | .inr x => .str x

/-- what stands at a tracked address -/
inductive HO where
  /-- a list -/
  | lst (xs : List V)
  /-- a tuple (never changes) -/
  | tup (xs : List V)
  /-- a dict whose keys are ints and texts; one whose keys are tuples of ints and texts (the empty one is both) -/
  | dK (kvs : List (Key × V)) | dT (kvs : List (List Key × V))
  /-- a set of ints: its members, its size -/
  | set (S : Int → Bool) (n : Nat)
  /-- an instance of the class at C, its dict at dx, its attributes -/
  | ins (C dx : Addr) (fs : List (Str × V))
  /-- the dict of the instance at x -/
  | own (x : Addr)
  /-- the dict of an exception -/
  | xd (fs : List (Str × V))
  /-- a bound method, f of x -/
  | met (f x : Addr)
  /-- a range object lo, lo + 1, .. below hi -/
  | rng (lo hi : Int)
  /-- a thing that is known to the object (the script; a dict while a loop walks it): read, never written while it is so -/
  | frz (o : Obj) (u : HO)
  /-- a code object's table -/
  | tbl (ps : Array Value)
  /-- any other thing, by what is true of its one object (a def of one's own: SetO a S n := HO.ext fun h => ..) -/
  | ext (φ : Heap → Prop)

abbrev Hp := Addr → Option HO
def upd (H : Hp) (a : Addr) (o : HO) : Hp := fun b => if b = a then some o else H b
theorem upd_same {H : Hp} {a : Addr} {o : HO} : upd H a o a = some o := by unfold upd; rw [if_pos rfl]
theorem upd_ne {H : Hp} {a b : Addr} {o : HO} (h : b ≠ a) : upd H a o b = H b := by unfold upd; rw [if_neg h]
theorem upd_upd {H : Hp} {a : Addr} {o u : HO} : upd (upd H a o) a u = upd H a u := by
  funext b; unfold upd; split <;> rfl
/-- two objects of different content stand apart -/
theorem ne_of {H : Hp} {a b : Addr} {o u : HO} (h : H a = some o) (h' : H b = some u) (d : o ≠ u) : a ≠ b := by
  intro e; subst e; rw [h] at h'; exact d (Option.some.inj h')
theorem ne_of_none {H : Hp} {a b : Addr} {o : HO} (h : H a = some o) (h' : H b = none) : a ≠ b := by
  intro e; subst e; rw [h] at h'; cases h'

section
variable (P : Program) (w : World)
def ObjOk (H : Hp) (h : Heap) (a : Addr) : HO → Prop
  | .lst xs => xs.length ≤ sizeLine ∧ ∃ (its : List Value) (n : Nat), Vals xs its ∧ h.get? a = some { cls := .type "list", data := .seq its.toArray n }
  | .tup xs => xs.length ≤ sizeLine ∧ ∃ its : List Value, Vals xs its ∧ IsTup h a its.toArray
  | .dK kvs => kvs.length ≤ sizeLine ∧ (a == sysModules) = false ∧ ∃ vs, KV kvs vs ∧ h.DictOf (mixKind P w) a vs
  | .dT kvs => kvs.length ≤ sizeLine ∧ (a == sysModules) = false ∧ ∃ xs : List (List Key × Addr × Value),
      Paired (fun (p : List Key × V) (q : List Key × Addr × Value) => p.1 = q.1 ∧ H q.2.1 = some (.tup (p.1.map kV)) ∧ RelV p.2 q.2.2) kvs xs ∧
      ∃ o es ep, h.get? a = some o ∧ o.ExactDict ∧ o.data = .dict es ep ∧ es.toList = xs.map (entryOfKey (tupleKind (mixKind P w))) ∧ (xs.map (·.1)).Nodup
  | .set S n => h.SetOf (intKind P w) a S n
  | .ins C dx fs => H dx = some (.own a) ∧ fs.length ≤ 1000 ∧ dx ≠ a ∧ h.get? a = some (PySem.W.instObj C dx) ∧
      ∃ mA, h.Ns1 dx mA ∧ (∀ f, RelO (fs.lookup f) (mA f)) ∧ PySem.Within mA (fs.map (·.1))
  | .own _ => ∃ o, h.get? a = some o
  | .xd fs => ∃ mA, h.Ns1 a mA ∧ ∀ f, RelO (fs.lookup f) (mA f)
  | .rng lo hi => ∃ t u v, h.get? a = some { cls := .type "range", data := .fields #[.int lo t, .int hi u, .int 1 v] }
  | .frz o u => h.get? a = some o ∧ ObjOk H h a u
  | .tbl ps => h.get? a = some { cls := .none, data := .fields ps }
  | .met f x => h.get? a = some (PySem.W.methodObj (.ref f) (.ref x))
  | .ext φ => φ h ∧ (∃ o, h.get? a = some o) ∧ ∀ h1 h2 : Heap, φ h1 → (∀ o, h1.get? a = some o → h2.get? a = some o) → φ h2
/-- the abstract heap is held -/
def HOk (H : Hp) (h : Heap) : Prop := ∀ a o, H a = some o → ObjOk P w H h a o
end

section
variable {P : Program} {w : World} {H H' : Hp} {h h' : Heap} {a : Addr} {o : HO}
theorem ObjOk.lt (x : ObjOk P w H h a o) : a < h.objs.size := by
  cases o with
  | lst xs => obtain ⟨_, _, _, _, e⟩ := x; exact Heap.lt_size e
  | tup xs => obtain ⟨_, _, _, p⟩ := x; exact p.lt
  | dK kvs => obtain ⟨_, _, _, _, o, _, _, e, _⟩ := x; exact Heap.lt_size e
  | dT kvs => obtain ⟨_, _, _, _, o, _, _, e, _⟩ := x; exact Heap.lt_size e
  | set S n => obtain ⟨o, _, _, _, e, _⟩ := x; exact Heap.lt_size e
  | ins C dx fs => obtain ⟨_, _, _, e, _⟩ := x; exact Heap.lt_size e
  | own y => obtain ⟨_, e⟩ := x; exact Heap.lt_size e
  | xd fs => obtain ⟨_, ⟨_, _, _, e, _⟩, _⟩ := x; exact Heap.lt_size e
  | rng lo hi => obtain ⟨_, _, _, e⟩ := x; exact Heap.lt_size e
  | frz ob u => obtain ⟨e, _⟩ := x; exact Heap.lt_size e
  | tbl ps => exact Heap.lt_size (show h.get? a = some _ from x)
  | met f y => exact Heap.lt_size (show h.get? a = some _ from x)
  | ext φ => obtain ⟨_, ⟨_, e⟩, _⟩ := x; exact Heap.lt_size e
theorem Paired.mapP {α β : Type} {F G : α → β → Prop} : ∀ {l₁ : List α} {l₂ : List β}, Paired F l₁ l₂ → (∀ a b, F a b → G a b) → Paired G l₁ l₂
  | _, _, .nil, _ => .nil
  | _, _, .cons r t, f => .cons (f _ _ r) (Paired.mapP t f)
/-- what an object's description leans on: its own object, its own dict, the tuples -/
theorem ObjOk.stay (x : ObjOk P w H h a o) (k : ∀ b u, (b = a ∨ H b = some (.own a)) → h.get? b = some u → h'.get? b = some u)
    (ho : ∀ b, H b = some (.own a) → H' b = some (.own a)) (ht : ∀ b xs, H b = some (.tup xs) → H' b = some (.tup xs)) : ObjOk P w H' h' a o := by
  induction o with
  | lst xs => obtain ⟨z, its, n, r, e⟩ := x; exact ⟨z, its, n, r, k _ _ (.inl rfl) e⟩
  | tup xs => obtain ⟨z, its, r, ob, e, c⟩ := x; exact ⟨z, its, r, ob, k _ _ (.inl rfl) e, c⟩
  | dK kvs => obtain ⟨z, y, vs, r, ob, es, ep, e, c⟩ := x; exact ⟨z, y, vs, r, ob, es, ep, k _ _ (.inl rfl) e, c⟩
  | dT kvs =>
    obtain ⟨z, y, xs, r, ob, es, ep, e, c⟩ := x
    exact ⟨z, y, xs, Paired.mapP r fun p q z => ⟨z.1, ht _ _ z.2.1, z.2.2⟩, ob, es, ep, k _ _ (.inl rfl) e, c⟩
  | set S n => obtain ⟨ob, es, ep, t, e, c⟩ := x; exact ⟨ob, es, ep, t, k _ _ (.inl rfl) e, c⟩
  | ins C dx fs =>
    obtain ⟨d, z, ne, e, mA, ⟨od, es, ep, e2, c⟩, r⟩ := x
    exact ⟨ho _ d, z, ne, k _ _ (.inl rfl) e, mA, ⟨od, es, ep, k _ _ (.inr d) e2, c⟩, r⟩
  | own y => obtain ⟨ob, e⟩ := x; exact ⟨ob, k _ _ (.inl rfl) e⟩
  | xd fs => obtain ⟨mA, ⟨od, es, ep, e, c⟩, r⟩ := x; exact ⟨mA, ⟨od, es, ep, k _ _ (.inl rfl) e, c⟩, r⟩
  | rng lo hi => obtain ⟨t, u, v, e⟩ := x; exact ⟨t, u, v, k _ _ (.inl rfl) e⟩
  | frz ob u ih => obtain ⟨e, q⟩ := x; exact ⟨k _ _ (.inl rfl) e, ih q⟩
  | tbl ps =>
    have e : h.get? a = some { cls := .none, data := .fields ps } := x
    show h'.get? a = some { cls := .none, data := .fields ps }
    exact k a _ (.inl rfl) e
  | met f y =>
    have e : h.get? a = some (PySem.W.methodObj (.ref f) (.ref y)) := x
    show h'.get? a = some (PySem.W.methodObj (.ref f) (.ref y))
    exact k a _ (.inl rfl) e
  | ext φ => obtain ⟨p, ⟨o, e⟩, st⟩ := x; exact ⟨st _ _ p fun o q => k _ _ (.inl rfl) q, ⟨o, k _ _ (.inl rfl) e⟩, st⟩
theorem HOk.lt (x : HOk P w H h) (e : H a = some o) : a < h.objs.size := (x a o e).lt
theorem HOk.fresh (x : HOk P w H h) (e : h.objs.size ≤ a) : H a = none := by
  cases q : H a with
  | none => rfl
  | some u => exact absurd (Nat.lt_of_lt_of_le (x.lt q) e) (Nat.lt_irrefl _)
/-- every object of the heap is kept -/
theorem HOk.kept (x : HOk P w H h) (k : ∀ b u, h.get? b = some u → h'.get? b = some u) : HOk P w H h' := fun a o e =>
  (x a o e).stay (fun b u _ q => k b u q) (fun _ q => q) fun _ _ q => q
/-- a new object is laid and tracked -/
theorem HOk.laid (x : HOk P w H h) (k : ∀ b u, h.get? b = some u → h'.get? b = some u) (hp : h.objs.size ≤ a) (new : ObjOk P w (upd H a o) h' a o) : HOk P w (upd H a o) h' := fun b u e => by
  have hn := x.fresh hp
  by_cases hb : b = a
  · subst hb; rw [upd_same] at e; cases e; exact new
  · rw [upd_ne hb] at e
    exact (x b u e).stay (fun c v _ q => k c v q) (fun c q => by rw [upd_ne (ne_of_none q hn)]; exact q) fun c xs q => by rw [upd_ne (ne_of_none q hn)]; exact q
end

/-- what may be read as u: it is u, or a known u -/
def Rd (H : Hp) (a : Addr) (u : HO) : Prop := H a = some u ∨ ∃ o, H a = some (.frz o u)
theorem Rd.ok {P : Program} {w : World} {H : Hp} {h : Heap} {a : Addr} {u : HO} (r : Rd H a u) (x : HOk P w H h) : ObjOk P w H h a u := by
  rcases r with r | ⟨o, r⟩
  · exact x a u r
  · obtain ⟨_, q⟩ := x a _ r
    exact q
/-- what may be written -/
def Mut : Option HO → Prop
  | some (.lst _) => True
  | some (.dK _) => True
  | some (.dT _) => True
  | some (.set _ _) => True
  | some (.ins _ _ _) => True
  | some (.ext _) => True
  | _ => False
section
variable {P : Program} {w : World} {H : Hp} {h h' : Heap} {x e : Addr} {o' : HO}
/-- the object at e is changed: x itself, or the dict of the instance x -/
theorem HOk.write (ok : HOk P w H h) (mu : Mut (H x)) (he : e = x ∨ H e = some (.own x)) (k : ∀ b u, b ≠ e → h.get? b = some u → h'.get? b = some u) (heo : ∃ u, h'.get? e = some u)
    (new : ObjOk P w (upd H x o') h' x o') : HOk P w (upd H x o') h' := fun b u q => by
  have nown : ∀ c y, H c = some (.own y) → c ≠ x := fun c y r z => by subst z; rw [r] at mu; exact mu
  have ntup : ∀ c xs, H c = some (.tup xs) → c ≠ x := fun c xs r z => by subst z; rw [r] at mu; exact mu
  by_cases hb : b = x
  · subst hb; rw [upd_same] at q; cases q; exact new
  · rw [upd_ne hb] at q
    by_cases hbe : b = e
    · have q' : H b = some (.own x) := by
        rcases he with z | z
        · exact absurd (hbe.trans z) hb
        · rw [hbe]; exact z
      rw [q] at q'; cases q'
      obtain ⟨v, hv⟩ := heo
      exact ⟨v, by rw [hbe]; exact hv⟩
    · refine (ok b u q).stay (fun c v hc r => k c v ?_ r) (fun c r => by rw [upd_ne (nown c b r)]; exact r) fun c xs r => by rw [upd_ne (ntup c xs r)]; exact r
      rcases hc with rfl | hc
      · exact hbe
      · rintro rfl
        rcases he with z | z
        · exact nown c b hc z
        · rw [hc] at z; cases z; exact hb rfl
end

/-! ### kept unless tracked; of the frames at fs (the callers') the slots may change (an exception that passes writes there); of the records at ex (iterators) nothing is said -/
structure Un (fs ex : List Addr) (H H' : Hp) (h h' : Heap) : Prop where
  keep : ∀ b o, h.get? b = some o → H b = none → b ∉ fs → b ∉ ex → h'.get? b = some o
  slot : ∀ b o, h.get? b = some o → H b = none → b ∈ fs → b ∉ ex → ∃ sl, h'.get? b = some { o with slots := sl }
  free : ∀ b o, h.get? b = some o → H b = none → b ∉ ex → H' b = none
  there : ∀ b o, h.get? b = some o → b ∉ ex → ∃ o', h'.get? b = some o'
  tups : ∀ b xs, H b = some (.tup xs) → H' b = some (.tup xs)
  frzs : ∀ b o u, H b = some (.frz o u) → H' b = some (.frz o u)
  tbls : ∀ b ps, H b = some (.tbl ps) → ∃ more, H' b = some (.tbl (ps ++ more))
section
variable {fs fs' ex ex' : List Addr} {H H1 H2 : Hp} {h h1 h2 h' : Heap} {a x e : Addr} {o : HO}
theorem Un.any (u : Un fs ex H H1 h h1) {b : Addr} {ob : Obj} (q : h.get? b = some ob) (n : H b = none) (hx : b ∉ ex) : ∃ sl, h1.get? b = some { ob with slots := sl } := by
  by_cases hb : b ∈ fs
  · exact u.slot b ob q n hb hx
  · exact ⟨ob.slots, u.keep b ob q n hb hx⟩
theorem Un.kept (k : ∀ b u, h.get? b = some u → h'.get? b = some u) : Un fs ex H H h h' :=
  ⟨fun b ob q _ _ _ => k b ob q, fun b ob q _ _ _ => ⟨ob.slots, k b ob q⟩, fun _ _ _ n _ => n, fun b ob q _ => ⟨ob, k b ob q⟩, fun _ _ q => q, fun _ _ _ q => q, fun _ ps q => ⟨#[], by rw [q]; simp⟩⟩
theorem Un.refl : Un fs ex H H h h := Un.kept fun _ _ q => q
theorem Un.laid (k : ∀ b u, h.get? b = some u → h'.get? b = some u) (hp : h.objs.size ≤ a) (hn : H a = none) : Un fs ex H (upd H a o) h h' where
  keep := fun b u q _ _ _ => k b u q
  slot := fun b u q _ _ _ => ⟨u.slots, k b u q⟩
  free := fun b u q n _ => by rw [upd_ne (Nat.ne_of_lt (Nat.lt_of_lt_of_le (Heap.lt_size q) hp))]; exact n
  there := fun b u q _ => ⟨u, k b u q⟩
  tups := fun b xs q => by rw [upd_ne (ne_of_none q hn)]; exact q
  frzs := fun b u xs q => by rw [upd_ne (ne_of_none q hn)]; exact q
  tbls := fun b ps q => ⟨#[], by rw [upd_ne (ne_of_none q hn), q]; simp⟩
theorem Un.write (mu : Mut (H x)) (he : e = x ∨ H e = some (.own x)) (k : ∀ b u, b ≠ e → h.get? b = some u → h'.get? b = some u) (heo : ∃ u, h'.get? e = some u) : Un fs ex H (upd H x o) h h' := by
  have hx : ∀ b, H b = none → b ≠ x := fun b n z => by subst z; rw [n] at mu; exact mu
  have hb : ∀ b, H b = none → b ≠ e := fun b n z => by
    subst z
    rcases he with r | r
    · exact hx b n r
    · rw [n] at r; cases r
  have hm : ∀ b u, H b = some u → ¬ Mut (some u) → b ≠ x := fun b u q nm z => by subst z; rw [q] at mu; exact nm mu
  refine ⟨fun b u q n _ _ => k b u (hb b n) q, fun b u q n _ _ => ⟨u.slots, k b u (hb b n) q⟩, fun b u q n _ => by rw [upd_ne (hx b n)]; exact n, fun b u q _ => ?_,
    fun b xs q => by rw [upd_ne (hm b _ q fun z => z)]; exact q, fun b u xs q => by rw [upd_ne (hm b _ q fun z => z)]; exact q, fun b ps q => ⟨#[], by rw [upd_ne (hm b _ q fun z => z), q]; simp⟩⟩
  by_cases hbe : b = e
  · subst hbe; exact heo
  · exact ⟨u, k b u hbe q⟩
end

/-! ### the heap without what is tracked -/
def trk (h : Heap) (H : Hp) : List Addr := (List.range h.objs.size).filter fun a => (H a).isSome
def hidT (h : Heap) (H : Hp) : Heap := PySem.W.hideAll h (trk h H)
theorem hidT_size (h : Heap) (H : Hp) : (hidT h H).objs.size = h.objs.size := PySem.W.hideAll_size _ _
theorem hidT_get {h : Heap} {H : Hp} {b : Addr} {o : Obj} (e : h.get? b = some o) (n : H b = none) : (hidT h H).get? b = some o :=
  PySem.W.hideAll_get _ e fun hm => by
    have q : (H b).isSome = true := (List.mem_filter.mp hm).2
    rw [n] at q; simp at q
theorem of_hidT {h : Heap} {H : Hp} {b : Addr} {o : Obj} (e : (hidT h H).get? b = some o) : h.get? b = some o ∧ H b = none := by
  have e' : h.get? b = some o := PySem.W.of_hideAll (trk h H) e
  refine ⟨e', ?_⟩
  cases q : H b with
  | none => rfl
  | some x =>
    have hm : b ∈ trk h H := List.mem_filter.mpr ⟨List.mem_range.mpr (Heap.lt_size e'), by simp [q]⟩
    have z : (hidT h H).get? b = none := PySem.W.hideAll_none (trk h H) hm
    rw [z] at e; cases e

/-! ### OpenK's ledger, filled with every new object but one -/
def allNews (g h : Heap) (L : Addr) : List (Addr × Obj) := (List.range h.objs.size).filterMap fun a => if a = L ∨ (g.get? a).isSome = true then none else (h.get? a).map fun o => (a, o)
def rest (g h : Heap) (L d : Addr) : List (Addr × Obj) := (allNews g h L).filter fun p => decide (p.1 ≠ d)
end L2

namespace L2
open PySem PySem.Spec PyProof.Rows

/-- the module's facts, over the base: the heap at the law's entry without what is tracked there -/
structure Mod (K : PySem.W.Frag) (mg : Str → Option Value) (base : Heap) : Prop where
  kin : K.In base
  glob : base.Ns mainGlobals mg
  blt : ∃ mb, base.Ns builtinsNs mb ∧ ∀ x : Str, x ≠ "__name__" → mb x = bootBuiltins x
  nolimit : base.NoLimit

/-- the context: a def's body (or a comprehension's block) running. base: fixed through the whole law; s₀, H₀: the entry; outer: the frames whose slots others may change (a def's callers); stack: all frames that run;
   ex: iterators that were made ahead of the entry and are walked here (a comprehension's); fn: the names whose cells were made at the entry (a def: all; a comprehension's block: its own); calm: not within an except suite; pn: pins that every state bears; xe: what is wanted of an exception that leaves the code -/
structure Cx where
  prog : Program
  w : World
  K : PySem.W.Frag
  mg : Str → Option Value
  base : Heap
  A : Around
  N : List Str
  s₀ : Shared
  H₀ : Hp
  env : Env
  outer : List Env
  stack : List Env
  ex : List Addr
  fn : Str → Bool
  calm : Bool
  pn : List (Addr × Obj)
  xe : Value → Shared → Prop
/-- the callers' frames -/
def frs (l : List Env) : List Addr := l.filterMap (·.frame)
abbrev Cx.fs (X : Cx) : List Addr := frs X.outer

def Vis (sc : Scope) (x : Str) : Prop := sc.names.lookup x = some .local ∨ sc.names.lookup x = some .cell ∨ sc.names.lookup x = some .free
def Loc (sc : Scope) (x : Str) : Prop := sc.names.lookup x = some .local ∨ sc.names.lookup x = some .cell
def Look (env : Env) (h : Heap) (m : Str → Option Value) (x : Str) (u : Value) : Prop :=
  (env.kindOf x = some .local ∧ m x = some u) ∨ ((env.kindOf x = some .cell ∨ env.kindOf x = some .free) ∧ ∃ c, env.cells.lookup x = some c ∧ h.IsCell c (some u))

structure Cx.Ok (X : Cx) : Prop where
  mod : Mod X.K X.mg X.base
  kind : X.env.scope.kind = .function
  glob : X.env.globals = mainGlobals
  blt : X.env.builtins = builtinsNs
  above : X.s₀.heap.objs.size ≤ X.env.locals
  inj : ∀ x y c, X.env.cells.lookup x = some c → X.env.cells.lookup y = some c → x = y
  has : ∀ x, (X.env.kindOf x = some .cell ∨ X.env.kindOf x = some .free) → ∃ c, X.env.cells.lookup x = some c
  cab : ∀ x c, X.fn x = true → X.env.cells.lookup x = some c → X.s₀.heap.objs.size ≤ c
  hd : X.calm = true → X.A.handled = none
  frames : X.A.frames = some X.stack
  stk : X.stack = X.outer ∨ (X.stack = X.env :: X.outer ∧ X.env.frame = some X.env.locals)
  exf : ∀ b ∈ X.ex, b ≠ X.env.locals ∧ ∀ x c, X.env.cells.lookup x = some c → c ≠ b
  bs : ∀ b o, X.base.get? b = some o → X.s₀.heap.get? b = some o ∧ X.H₀ b = none
  bsz : X.base.objs.size ≤ X.s₀.heap.objs.size
  noex : ∀ b o, X.base.get? b = some o → b ∉ X.ex
  exfs : ∀ b ∈ X.ex, b ∉ X.fs
  funs : X.s₀.heap.FunFrames X.base X.outer
  frf : ∀ b ∈ X.fs, X.H₀ b = none

structure Inv (X : Cx) (pins : List (Addr × Obj)) (σ : List (Option V)) (H : Hp) (s : Shared) : Prop where
  ok : X.Ok
  os : s.os = X.s₀.os
  bare : AllBare s.gens
  base : Un X.fs X.ex X.H₀ H X.s₀.heap s.heap
  loc : ∃ m, s.heap.Ns X.env.locals m ∧ ∀ (i : Nat) (x : Str) (v : V), X.N[i]? = some x → σ[i]? = some (some v) → Vis X.env.scope x → ∃ u, RelV v u ∧ Look X.env s.heap m x u
  cell : ∀ x c, X.env.cells.lookup x = some c → ∃ v, s.heap.IsCell c v
  free : H X.env.locals = none
  freeC : ∀ x c, X.env.cells.lookup x = some c → H c = none
  pin : ∀ p ∈ X.pn ++ pins, s.heap.get? p.1 = some p.2 ∧ H p.1 = none ∧ p.1 ≠ X.env.locals ∧ p.1 ∉ X.fs ∧ ∀ v, p.2.data ≠ .cell v
  hok : HOk X.prog X.w H s.heap
  len : σ.length = X.N.length

section
variable {X : Cx} {pins : List (Addr × Obj)} {σ : List (Option V)} {H H' : Hp} {s : Shared} {h' : Heap}

theorem Cx.Ok.nofr (ok : X.Ok) {b : Addr} {o : Obj} (e : X.base.get? b = some o) : b ∉ X.fs := fun hb => by
  have := (ok.funs.mem hb).1
  rw [e] at this; cases this
theorem Inv.bs (I : Inv X pins σ H s) : ∀ b o, X.base.get? b = some o → s.heap.get? b = some o ∧ H b = none := fun b o e =>
  ⟨I.base.keep b o (I.ok.bs b o e).1 (I.ok.bs b o e).2 (I.ok.nofr e) (I.ok.noex b o e), I.base.free b o (I.ok.bs b o e).1 (I.ok.bs b o e).2 (I.ok.noex b o e)⟩
theorem Inv.bk (I : Inv X pins σ H s) : ∀ b o, X.base.get? b = some o → s.heap.get? b = some o := fun b o e => (I.bs b o e).1
theorem Inv.mod (I : Inv X pins σ H s) : Mod X.K X.mg X.base := I.ok.mod
theorem Inv.kIn (I : Inv X pins σ H s) : X.K.In s.heap := I.ok.mod.kin.keeps I.bk
/-- the frame over the base: for OpenK's rules (K.In X.base is I.mod.kin) -/
theorem Inv.fr (I : Inv X pins σ H s) : ∃ m, Fr X.base X.env.locals s.heap m :=
  let ⟨m, hn, _⟩ := I.loc
  ⟨m, hn, I.bk, Nat.le_trans I.ok.bsz I.ok.above⟩
theorem Inv.lt (I : Inv X pins σ H s) : X.env.locals < s.heap.objs.size := let ⟨_, hn, _⟩ := I.loc; hn.lt
theorem Inv.sz (I : Inv X pins σ H s) : X.s₀.heap.objs.size ≤ s.heap.objs.size := Nat.le_trans I.ok.above (Nat.le_of_lt I.lt)
theorem Inv.nofs (I : Inv X pins σ H s) {a : Addr} (h : s.heap.objs.size ≤ a) : a ∉ X.fs := fun hb => by
  obtain ⟨_, o, ho, _⟩ := I.ok.funs.mem hb
  exact absurd (Nat.lt_of_lt_of_le (Heap.lt_size ho) (Nat.le_trans I.sz h)) (Nat.lt_irrefl _)
theorem Inv.cne (I : Inv X pins σ H s) : ∀ x c, X.env.cells.lookup x = some c → c ≠ X.env.locals := fun x c e z => by
  obtain ⟨v, o, ho, hd⟩ := I.cell x c e
  obtain ⟨m, ⟨o', es, ep, ho', hd', _⟩, _⟩ := I.loc
  rw [z, ho'] at ho; cases ho; rw [hd'] at hd; cases hd
theorem Inv.funs (I : Inv X pins σ H s) : s.heap.FunFrames X.base X.outer := by
  have all : ∀ (l : List Env), (∀ b ∈ frs l, b ∈ X.fs) → X.s₀.heap.FunFrames X.base l → s.heap.FunFrames X.base l := by
    intro l
    induction l with
    | nil => intro _ _; trivial
    | cons env r ih =>
      intro hs hl
      obtain ⟨hk, ⟨L, o, hf, hn, ho, hd⟩, hr⟩ := hl
      have hL : L ∈ X.fs := hs L (by unfold frs; rw [List.filterMap_cons, hf]; exact List.mem_cons_self)
      obtain ⟨sl, e⟩ := I.base.slot L o ho (I.ok.frf L hL) hL fun z => I.ok.exfs L z hL
      exact ⟨hk, ⟨L, _, hf, hn, e, hd⟩, ih (fun b hb => hs b (by unfold frs; rw [List.filterMap_cons, hf]; exact List.mem_cons_of_mem _ hb)) hr⟩
  exact all X.outer (fun _ hb => hb) I.ok.funs

/-- the frames that run, for a call -/
theorem Inv.stack (I : Inv X pins σ H s) : s.heap.FunFrames X.base X.stack := by
  rcases I.ok.stk with e | ⟨e, hf⟩
  · rw [e]; exact I.funs
  · rw [e]
    obtain ⟨m, hn, _⟩ := I.loc
    refine .cons (by rw [I.ok.kind]; decide) hf hn ?_ I.funs
    exact Heap.get?_none_of_le (Nat.le_trans I.ok.bsz I.ok.above)
theorem Inv.stkSub (I : Inv X pins σ H s) : ∀ b ∈ frs X.stack, b ∈ X.env.locals :: X.fs := fun b hb => by
  rcases I.ok.stk with e | ⟨e, hf⟩
  · rw [e] at hb; exact List.mem_cons_of_mem _ hb
  · rw [e] at hb
    unfold frs at hb
    rw [List.filterMap_cons, hf] at hb
    exact hb
theorem Inv.stkFree (I : Inv X pins σ H s) : ∀ b ∈ frs X.stack, H b = none := fun b hb => by
  rcases List.mem_cons.mp (I.stkSub b hb) with e | hb
  · rw [e]; exact I.free
  · obtain ⟨_, o, ho, _⟩ := I.ok.funs.mem hb
    exact I.base.free b o ho (I.ok.frf b hb) fun z => I.ok.exfs b z hb

/-- THE STEP: the untracked objects but the frame and the records at ch are kept (the callers' frames up to slots), the frame's map is kept, the new abstract heap is held -/
theorem Inv.step {g' : Array GenState} {t' : Nat} {d' : Drawn} {ch : List Addr} (I : Inv X pins σ H s)
    (hch : ∀ b ∈ ch, (b ∈ X.ex ∨ X.s₀.heap.objs.size ≤ b) ∧ b ≠ X.env.locals ∧ (∀ x c, X.env.cells.lookup x = some c → c ≠ b) ∧ ∀ p ∈ X.pn ++ pins, p.1 ≠ b)
    (keep : ∀ b o, b ≠ X.env.locals → b ∉ X.fs → b ∉ ch → s.heap.get? b = some o → H b = none → h'.get? b = some o)
    (slot : ∀ b o, b ≠ X.env.locals → b ∈ X.fs → b ∉ ch → s.heap.get? b = some o → H b = none → ∃ sl, h'.get? b = some { o with slots := sl }) (free : ∀ b o, b ∉ ch → s.heap.get? b = some o → H b = none → H' b = none)
    (there : ∀ b o, b ∉ ch → s.heap.get? b = some o → ∃ o', h'.get? b = some o')
    (tups : ∀ b xs, H b = some (.tup xs) → H' b = some (.tup xs)) (frzs : ∀ b o u, H b = some (.frz o u) → H' b = some (.frz o u)) (tbls : ∀ b ps, H b = some (.tbl ps) → ∃ more, H' b = some (.tbl (ps ++ more)))
    (ns : ∀ m, s.heap.Ns X.env.locals m → h'.Ns X.env.locals m) (hok : HOk X.prog X.w H' h') (hg : AllBare g') :
    Inv X pins σ H' { s with heap := h', gens := g', drawn := d', toks := t' } := by
  have neL : ∀ b o, X.s₀.heap.get? b = some o → b ≠ X.env.locals := fun b o e => Nat.ne_of_lt (Nat.lt_of_lt_of_le (Heap.lt_size e) I.ok.above)
  have neC : ∀ b o, X.s₀.heap.get? b = some o → b ∉ X.ex → b ∉ ch := fun b o e hx hb => by
    rcases (hch b hb).1 with z | z
    · exact hx z
    · exact absurd (Nat.lt_of_lt_of_le (Heap.lt_size e) z) (Nat.lt_irrefl _)
  have cellK : ∀ x c, X.env.cells.lookup x = some c → ∀ v, s.heap.IsCell c v → h'.IsCell c v := fun x c e v ⟨o, ho, hd⟩ => by
    have nch : c ∉ ch := fun z => (hch c z).2.2.1 x c e rfl
    by_cases hc : c ∈ X.fs
    · obtain ⟨sl, q⟩ := slot c o (I.cne x c e) hc nch ho (I.freeC x c e)
      exact ⟨_, q, hd⟩
    · exact ⟨o, keep c o (I.cne x c e) hc nch ho (I.freeC x c e), hd⟩
  refine ⟨I.ok, I.os, hg, ⟨fun b o e n hb hx => ?_, fun b o e n hb hx => ?_, fun b o e n hx => ?_, fun b o e hx => ?_, fun b xs e => tups b xs (I.base.tups b xs e), fun b o xs e => frzs b o xs (I.base.frzs b o xs e), fun b ps e => ?_⟩, ?_, fun x c e => ?_, ?_, fun x c e => ?_, fun p hp => ?_, hok, I.len⟩
  · exact keep b o (neL b o e) hb (neC b o e hx) (I.base.keep b o e n hb hx) (I.base.free b o e n hx)
  · obtain ⟨sl, e1⟩ := I.base.slot b o e n hb hx
    obtain ⟨sl', e2⟩ := slot b _ (neL b o e) hb (neC b o e hx) e1 (I.base.free b o e n hx)
    exact ⟨sl', e2⟩
  · obtain ⟨o', e1⟩ := I.base.there b o e hx
    exact free b o' (neC b o e hx) e1 (I.base.free b o e n hx)
  · obtain ⟨o', e1⟩ := I.base.there b o e hx
    exact there b o' (neC b o e hx) e1
  · obtain ⟨m1, e1⟩ := I.base.tbls b ps e
    obtain ⟨m2, e2⟩ := tbls b _ e1
    exact ⟨m1 ++ m2, by rw [e2, Array.append_assoc]⟩
  · obtain ⟨m, hn, hl⟩ := I.loc
    refine ⟨m, ns m hn, fun i x v e1 e2 e3 => ?_⟩
    obtain ⟨u, r, l⟩ := hl i x v e1 e2 e3
    refine ⟨u, r, ?_⟩
    rcases l with l | ⟨k, c, e, z⟩
    · exact .inl l
    · exact .inr ⟨k, c, e, cellK x c e _ z⟩
  · obtain ⟨v, z⟩ := I.cell x c e
    exact ⟨v, cellK x c e v z⟩
  · obtain ⟨m, ⟨o, _, _, ho, _⟩, _⟩ := I.loc
    exact free _ o (fun z => (hch _ z).2.1 rfl) ho I.free
  · obtain ⟨v, o, ho, hd⟩ := I.cell x c e
    exact free c o (fun z => (hch c z).2.2.1 x c e rfl) ho (I.freeC x c e)
  · obtain ⟨e, n, ne, nf, d⟩ := I.pin p hp
    have nch : p.1 ∉ ch := fun z => (hch p.1 z).2.2.2 p hp rfl
    exact ⟨keep p.1 p.2 ne nf nch e n, free p.1 p.2 nch e n, ne, nf, d⟩
/-- .. where the frame's own object is kept too -/
theorem Inv.un {t' : Nat} (I : Inv X pins σ H s) (u : Un X.fs [] H H' s.heap h') (hok : HOk X.prog X.w H' h') : Inv X pins σ H' { s with heap := h', toks := t' } := by
  obtain ⟨m, ⟨o, es, ep, ho, r⟩, _⟩ := id I.loc
  obtain ⟨sl, hL⟩ := u.any ho I.free (by simp)
  exact I.step (g' := s.gens) (d' := s.drawn) (ch := []) (fun _ z => nomatch z) (fun b o _ hb _ e n => u.keep b o e n hb (by simp)) (fun b o _ hb _ e n => u.slot b o e n hb (by simp)) (fun b o _ e n => u.free b o e n (by simp)) (fun b o _ e => u.there b o e (by simp)) u.tups u.frzs u.tbls (fun m' hm => by
    obtain ⟨o', es', ep', ho', r'⟩ := hm
    rw [ho] at ho'; cases ho'
    exact ⟨_, es', ep', hL, r'⟩) hok I.bare
/-- behind a call (or a comprehension's block): the slots of this frame may have changed too, the records at ch may have turned -/
theorem Inv.call {g' : Array GenState} {t' : Nat} {d' : Drawn} {ch : List Addr} (I : Inv X pins σ H s) (u : Un (frs X.stack) ch H H' s.heap h') (hok : HOk X.prog X.w H' h') (hg : AllBare g')
    (hch : ∀ b ∈ ch, (b ∈ X.ex ∨ X.s₀.heap.objs.size ≤ b) ∧ b ≠ X.env.locals ∧ (∀ x c, X.env.cells.lookup x = some c → c ≠ b) ∧ ∀ p ∈ X.pn ++ pins, p.1 ≠ b) :
    Inv X pins σ H' { s with heap := h', gens := g', drawn := d', toks := t' } := by
  obtain ⟨m, ⟨o, es, ep, ho, r⟩, _⟩ := id I.loc
  obtain ⟨sl, hL⟩ := u.any ho I.free fun z => (hch _ z).2.1 rfl
  exact I.step (ch := ch) hch (fun b o hL hb hc e n => u.keep b o e n (fun z => (List.mem_cons.mp (I.stkSub b z)).elim hL hb) hc) (fun b o _ _ hc e n => u.any e n hc) (fun b o hc e n => u.free b o e n hc) (fun b o hc e => u.there b o e hc) u.tups u.frzs u.tbls (fun m' hm => by
    obtain ⟨o', es', ep', ho', r'⟩ := hm
    rw [ho] at ho'; cases ho'
    exact ⟨_, es', ep', hL, r'⟩) hok hg
/-- an untracked record of ours (an iterator) has turned -/
theorem Inv.turned {t' : Nat} {it : Addr} (I : Inv X pins σ H s) (k : ∀ b o, b ≠ it → s.heap.get? b = some o → h'.get? b = some o) (hn : H it = none) (hL : it ≠ X.env.locals)
    (h1 : it ∈ X.ex ∨ X.s₀.heap.objs.size ≤ it) (h2 : ∀ x c, X.env.cells.lookup x = some c → c ≠ it) (h3 : ∀ p ∈ X.pn ++ pins, p.1 ≠ it) : Inv X pins σ H { s with heap := h', toks := t' } := by
  have nit : ∀ b u, H b = some u → b ≠ it := fun b u e z => by rw [z, hn] at e; cases e
  refine I.step (g' := s.gens) (d' := s.drawn) (ch := [it]) (fun b hb => ?_) (fun b o _ _ hc e _ => k b o (fun z => hc (by simp [z])) e) (fun b o _ _ hc e _ => ⟨o.slots, k b o (fun z => hc (by simp [z])) e⟩) (fun _ _ _ _ n => n)
    (fun b o hc e => ⟨o, k b o (fun z => hc (by simp [z])) e⟩) (fun _ _ e => e) (fun _ _ _ e => e) (fun b ps e => ⟨#[], by rw [e]; simp⟩) (fun m hm => ?_) (fun b u e => ?_) I.bare
  · have e : b = it := by simpa using hb
    subst e
    exact ⟨h1, hL, h2, h3⟩
  · obtain ⟨o, es, ep, ho, r⟩ := hm
    exact ⟨o, es, ep, k _ o (Ne.symm hL) ho, r⟩
  · refine (I.hok b u e).stay (fun c v hc q => k c v ?_ q) (fun _ q => q) fun _ _ q => q
    rcases hc with z | z
    · rw [z]; exact nit b u e
    · exact nit c _ z
theorem Inv.tok (I : Inv X pins σ H s) (t : Nat) : Inv X pins σ H { s with toks := t } := I.un (h' := s.heap) (t' := t) Un.refl I.hok
/-- all objects kept -/
theorem Inv.kept {t' : Nat} (I : Inv X pins σ H s) (k : ∀ b u, s.heap.get? b = some u → h'.get? b = some u) : Inv X pins σ H { s with heap := h', toks := t' } := I.un (Un.kept k) (I.hok.kept k)
/-- a new object laid and tracked -/
theorem Inv.laid {a : Addr} {o : HO} {t' : Nat} (I : Inv X pins σ H s) (k : ∀ b u, s.heap.get? b = some u → h'.get? b = some u) (hp : s.heap.objs.size ≤ a) (new : ObjOk X.prog X.w (upd H a o) h' a o) :
    Inv X pins σ (upd H a o) { s with heap := h', toks := t' } := I.un (Un.laid k hp (I.hok.fresh hp)) (I.hok.laid k hp new)
/-- an object written -/
theorem Inv.write {x e : Addr} {o : HO} {t' : Nat} (I : Inv X pins σ H s) (mu : Mut (H x)) (he : e = x ∨ H e = some (.own x)) (k : ∀ b u, b ≠ e → s.heap.get? b = some u → h'.get? b = some u) (heo : ∃ u, h'.get? e = some u)
    (new : ObjOk X.prog X.w (upd H x o) h' x o) : Inv X pins σ (upd H x o) { s with heap := h', toks := t' } := I.un (Un.write mu he k heo) (I.hok.write mu he k heo new)
theorem Inv.pins_of {pins' : List (Addr × Obj)} (I : Inv X pins σ H s) (h : ∀ p ∈ pins', s.heap.get? p.1 = some p.2 ∧ H p.1 = none ∧ p.1 ≠ X.env.locals ∧ p.1 ∉ X.fs ∧ ∀ v, p.2.data ≠ .cell v) : Inv X pins' σ H s :=
  ⟨I.ok, I.os, I.bare, I.base, I.loc, I.cell, I.free, I.freeC, fun p hp => (List.mem_append.mp hp).elim (fun z => I.pin p (List.mem_append_left _ z)) (h p), I.hok, I.len⟩

theorem nodup_ix {N : List Str} (hN : N.Nodup) {i j : Nat} {x : Str} (a : N[i]? = some x) (b : N[j]? = some x) : i = j := by
  obtain ⟨h1, e1⟩ := List.getElem?_eq_some_iff.mp a
  obtain ⟨h2, e2⟩ := List.getElem?_eq_some_iff.mp b
  exact (List.getElem_inj hN).mp (e1.trans e2.symm)

/-- a name is stored; what changed -/
theorem store_ok2 {M : Model} {A : Around} {E : Value → Shared → Prop} {i : Nat} {x : Str} {v : V} {u : Value} {Q : Unit → Shared → Prop} (I : Inv X pins σ H s) (hN : X.N.Nodup) (hi : X.N[i]? = some x) (hx : Loc X.env.scope x) (r : RelV v u)
    (h : ∀ s', Inv X pins (σ.set i (some v)) H s' → (∃ a, Heap.SameBut a s.heap s'.heap ∧ (a = X.env.locals ∨ X.env.cells.lookup x = some a)) → Q () s') (hf : X.fn x = true ∨ X.env.scope.names.lookup x = some .local := by first | exact .inl rfl | exact .inr rfl | assumption) : wpAny M A (storeName X.env x u) Q E s := by
  obtain ⟨m, hn, hl⟩ := id I.loc
  have hcls : (X.env.scope.kind == .class || (X.env.scope.kind == .module && X.env.locals != X.env.globals)) = false := by rw [I.ok.kind]; rfl
  have hiσ : i < σ.length := by rw [I.len]; exact (List.getElem?_eq_some_iff.mp hi).1
  have cne := I.cne
  have tracked : ∀ {a : Addr} {h' : Heap}, (∃ o, s.heap.get? a = some o ∧ H a = none) → Heap.SameBut a s.heap h' → HOk X.prog X.w H h' := fun {a h'} ha hs b ob e => by
    obtain ⟨_, _, hfree⟩ := ha
    refine (I.hok b ob e).stay (fun c w' hc q => (hs.2 c ?_).trans q) (fun _ q => q) fun _ _ q => q
    rintro rfl
    rcases hc with rfl | hc
    · rw [hfree] at e; cases e
    · rw [hfree] at hc; cases hc
  rcases hx with hk | hk
  · refine wpAny_storeName_local hk hn (fun h' hn' hs => ?_) hcls
    obtain ⟨oL, _, _, hoL, _⟩ := id hn
    refine h _ ⟨I.ok, I.os, I.bare, ⟨fun b o e n hb hx => ?_, fun b o e n hb hx => ?_, I.base.free, fun b o e hx => ?_, I.base.tups, I.base.frzs, I.base.tbls⟩, ⟨_, hn', fun j y v' e1 e2 e3 => ?_⟩, fun y c e => ?_, I.free, I.freeC, fun p hp => ?_, tracked ⟨oL, hoL, I.free⟩ hs, by simpa using I.len⟩ ⟨_, hs, .inl rfl⟩
    · exact (hs.2 b (Nat.ne_of_lt (Nat.lt_of_lt_of_le (Heap.lt_size e) I.ok.above))).trans (I.base.keep b o e n hb hx)
    · obtain ⟨sl, e1⟩ := I.base.slot b o e n hb hx
      exact ⟨sl, (hs.2 b (Nat.ne_of_lt (Nat.lt_of_lt_of_le (Heap.lt_size e) I.ok.above))).trans e1⟩
    · obtain ⟨o', e1⟩ := I.base.there b o e hx
      exact ⟨o', (hs.2 b (Nat.ne_of_lt (Nat.lt_of_lt_of_le (Heap.lt_size e) I.ok.above))).trans e1⟩
    · by_cases hj : j = i
      · subst hj
        rw [hi] at e1; cases e1
        rw [List.getElem?_set_self hiσ] at e2
        cases e2
        exact ⟨u, r, .inl ⟨hk, by simp⟩⟩
      · rw [List.getElem?_set_ne (Ne.symm hj)] at e2
        obtain ⟨u', r', q⟩ := hl j y v' e1 e2 e3
        refine ⟨u', r', ?_⟩
        rcases q with ⟨k, e⟩ | ⟨k, c, e, z⟩
        · refine .inl ⟨k, ?_⟩
          have : y ≠ x := fun e => hj (nodup_ix hN e1 (e ▸ hi))
          simp [this, e]
        · exact .inr ⟨k, c, e, z.sameBut hs (cne y c e)⟩
    · obtain ⟨w', z⟩ := I.cell y c e
      exact ⟨w', z.sameBut hs (cne y c e)⟩
    · obtain ⟨e, n, ne, nf, d⟩ := I.pin p hp
      exact ⟨(hs.2 p.1 ne).trans e, n, ne, nf, d⟩
  · have hfn : X.fn x = true := by
      rcases hf with z | z
      · exact z
      · rw [z] at hk; cases hk
    obtain ⟨c, hc⟩ := I.ok.has x (.inl hk)
    obtain ⟨w', z⟩ := I.cell x c hc
    refine wpAny_storeName_cell I.ok.kind hk hc z (fun h' hc' hs => ?_)
    obtain ⟨oc, hoc, hocd⟩ := id z
    refine h { s with heap := h' } ⟨I.ok, I.os, I.bare, ⟨fun b o e n hb hx => ?_, fun b o e n hb hx => ?_, I.base.free, fun b o e hx => ?_, I.base.tups, I.base.frzs, I.base.tbls⟩, ⟨m, hn.sameBut hs (Ne.symm (cne x c hc)), fun j y v' e1 e2 e3 => ?_⟩, fun y c' e => ?_, I.free, I.freeC, fun p hp => ?_, tracked ⟨oc, hoc, I.freeC x c hc⟩ hs, by simpa using I.len⟩ ⟨c, hs, .inr hc⟩
    · exact (hs.2 b (Nat.ne_of_lt (Nat.lt_of_lt_of_le (Heap.lt_size e) (I.ok.cab x c hfn hc)))).trans (I.base.keep b o e n hb hx)
    · obtain ⟨sl, e1⟩ := I.base.slot b o e n hb hx
      exact ⟨sl, (hs.2 b (Nat.ne_of_lt (Nat.lt_of_lt_of_le (Heap.lt_size e) (I.ok.cab x c hfn hc)))).trans e1⟩
    · obtain ⟨o', e1⟩ := I.base.there b o e hx
      exact ⟨o', (hs.2 b (Nat.ne_of_lt (Nat.lt_of_lt_of_le (Heap.lt_size e) (I.ok.cab x c hfn hc)))).trans e1⟩
    · by_cases hj : j = i
      · subst hj
        rw [hi] at e1; cases e1
        rw [List.getElem?_set_self hiσ] at e2
        cases e2
        exact ⟨u, r, .inr ⟨.inl hk, c, hc, hc'⟩⟩
      · rw [List.getElem?_set_ne (Ne.symm hj)] at e2
        obtain ⟨u', r', q⟩ := hl j y v' e1 e2 e3
        refine ⟨u', r', ?_⟩
        rcases q with q | ⟨k, c', e, z'⟩
        · exact .inl q
        · refine .inr ⟨k, c', e, z'.sameBut hs ?_⟩
          rintro rfl
          exact hj (nodup_ix hN e1 (I.ok.inj _ _ _ e hc ▸ hi))
    · by_cases hcc : c' = c
      · subst hcc; exact ⟨_, hc'⟩
      · obtain ⟨w2, z2⟩ := I.cell y c' e
        exact ⟨w2, z2.sameBut hs hcc⟩
    · obtain ⟨e, n, ne, nf, d⟩ := I.pin p hp
      refine ⟨(hs.2 p.1 ?_).trans e, n, ne, nf, d⟩
      intro q
      rw [q, hoc] at e
      have q' : oc = p.2 := Option.some.inj e
      exact d w' (by rw [← q']; exact hocd)
theorem store_ok {M : Model} {A : Around} {E : Value → Shared → Prop} {i : Nat} {x : Str} {v : V} {u : Value} {Q : Unit → Shared → Prop} (I : Inv X pins σ H s) (hN : X.N.Nodup) (hi : X.N[i]? = some x) (hx : Loc X.env.scope x) (r : RelV v u)
    (h : ∀ s', Inv X pins (σ.set i (some v)) H s' → Q () s') (hf : X.fn x = true ∨ X.env.scope.names.lookup x = some .local := by first | exact .inl rfl | exact .inr rfl | assumption) : wpAny M A (storeName X.env x u) Q E s :=
  store_ok2 I hN hi hx r (fun s' I' _ => h s' I') hf
/-- behind a call or a block, the state as it is -/
theorem Inv.call' {s' : Shared} {ch : List Addr} (I : Inv X pins σ H s) (ho : s'.os = s.os) (u : Un (frs X.stack) ch H H' s.heap s'.heap) (hok : HOk X.prog X.w H' s'.heap) (hg : AllBare s'.gens)
    (hch : ∀ b ∈ ch, (b ∈ X.ex ∨ X.s₀.heap.objs.size ≤ b) ∧ b ≠ X.env.locals ∧ (∀ x c, X.env.cells.lookup x = some c → c ≠ b) ∧ ∀ p ∈ X.pn ++ pins, p.1 ≠ b) : Inv X pins σ H' s' := by
  obtain ⟨h', g', d', t', o'⟩ := s'
  have e : o' = s.os := ho
  subst e
  exact I.call (g' := g') (t' := t') (d' := d') u hok hg hch
end

/-! ### the judgements -/
/-- an exception: its class, its own dict's address (where it has one), the abstract heap behind it -/
abbrev XK := Value → Option Addr → Hp → Prop
abbrev St := List (Option V)
abbrev VK := V → Hp → Prop
/-- an expression's reading; a test's; an argument list's -/
abbrev TE := St → Hp → VK → Prop
abbrev TT := St → Hp → (Bool → Hp → Prop) → Prop
abbrev TA := St → Hp → (List V → Hp → Prop) → Prop
/-- what is wanted behind a statement -/
structure Ends where
  nx : St → Hp → Prop
  rt : VK
  bk : St → Hp → Prop := fun _ _ => False
  ct : St → Hp → Prop := fun _ _ => False
abbrev TS := Ends → St → Hp → Prop

def EP (X : Cx) (pins : List (Addr × Obj)) (σ : St) (Q : VK) (u : Value) (s' : Shared) : Prop := ∃ v H', Inv X pins σ H' s' ∧ RelV v u ∧ Q v H'
def TP (X : Cx) (pins : List (Addr × Obj)) (σ : St) (Q : Bool → Hp → Prop) (b : Bool) (s' : Shared) : Prop := ∃ H', Inv X pins σ H' s' ∧ Q b H'
def AP (X : Cx) (pins : List (Addr × Obj)) (σ : St) (Q : List V → Hp → Prop) (us : List Value) (s' : Shared) : Prop := ∃ vs H', Inv X pins σ H' s' ∧ Vals vs us ∧ Q vs H'
def SP (X : Cx) (pins : List (Addr × Obj)) (D : Ends) (f : Flow) (s' : Shared) : Prop :=
  match f with
  | .next => ∃ σ' H', Inv X pins σ' H' s' ∧ D.nx σ' H'
  | .brk => ∃ σ' H', Inv X pins σ' H' s' ∧ D.bk σ' H'
  | .cont => ∃ σ' H', Inv X pins σ' H' s' ∧ D.ct σ' H'
  | .ret u => ∃ v σ' H', Inv X pins σ' H' s' ∧ RelV v u ∧ D.rt v H'

def PE (X : Cx) (e : Expr) (t : TE) : Prop :=
  ∀ (pins : List (Addr × Obj)) (s : Shared) (σ : St) (H : Hp) (Q : VK), Inv X pins σ H s → t σ H Q → wpAny (model X.prog X.w) X.A (eval e X.env) (EP X pins σ Q) X.xe s
def PT (X : Cx) (e : Expr) (t : TT) : Prop :=
  ∀ (pins : List (Addr × Obj)) (s : Shared) (σ : St) (H : Hp) (Q : Bool → Hp → Prop), Inv X pins σ H s → t σ H Q → wpAny (model X.prog X.w) X.A (isTrue e X.env (eval e X.env)) (TP X pins σ Q) X.xe s
/-- a test whatever its 'whole' is (and, or) -/
def PW (X : Cx) (e : Expr) (t : TT) : Prop :=
  ∀ (whole : Sem Value) (pins : List (Addr × Obj)) (s : Shared) (σ : St) (H : Hp) (Q : Bool → Hp → Prop), Inv X pins σ H s → t σ H Q → wpAny (model X.prog X.w) X.A (isTrue e X.env whole) (TP X pins σ Q) X.xe s
theorem PW.pt {X : Cx} {e : Expr} {t : TT} (h : PW X e t) : PT X e t := h _
/-- an argument list (no star), from the left -/
def PA (X : Cx) (es : List Expr) (t : TA) : Prop :=
  ∀ (pos : Pos) (pins : List (Addr × Obj)) (s : Shared) (σ : St) (H : Hp) (Q : List V → Hp → Prop), Inv X pins σ H s → t σ H Q → wpAny (model X.prog X.w) X.A (spliced (backTo pos (starEach es X.env))) (AP X pins σ Q) X.xe s
def PS (X : Cx) (st : Stmt) (t : TS) : Prop :=
  ∀ (pins : List (Addr × Obj)) (s : Shared) (σ : St) (H : Hp) (D : Ends), Inv X pins σ H s → t D σ H → wpAny (model X.prog X.w) X.A (exec st X.env) (SP X pins D) X.xe s
def PSs (X : Cx) (st : List Stmt) (t : TS) : Prop :=
  ∀ (pins : List (Addr × Obj)) (s : Shared) (σ : St) (H : Hp) (D : Ends), Inv X pins σ H s → t D σ H → wpAny (model X.prog X.w) X.A (execs st X.env) (SP X pins D) X.xe s
/-- weaken the end -/
theorem thn {α : Type} {t : Sem α} {Q Q' : α → Shared → Prop} {M : Model} {A : Around} {E : Value → Shared → Prop} {s : Shared} (h : wpAny M A t Q E s) (hQ : ∀ a s, Q a s → Q' a s) : wpAny M A t Q' E s := wpAny_mono h hQ fun _ _ x => x
end L2

namespace L2
open PySem PySem.Spec PyProof.Rows
section
variable {X : Cx}


/-! ### names and constants -/
def tVar (i : Nat) : TE := fun σ H Q => ∃ v, σ[i]? = some (some v) ∧ Q v H
def tC (v : V) : TE := fun _ H Q => Q v H
theorem pe_var {i : Nat} {x : Str} {pos : Pos} (hN : X.N[i]? = some x) (hv : Vis X.env.scope x) (hd : (x == ("__debug__" : Str)) = false := by decide) (hcd : (x == ("__classdict__" : Str)) = false := by decide) : PE X (.Name x pos) (tVar i) := by
  intro pins s σ H Q I h
  obtain ⟨v, e, h⟩ := h
  obtain ⟨m, hn, hl⟩ := I.loc
  obtain ⟨u, r, l⟩ := hl i x v hN e hv
  have fin : EP X pins σ Q u s := ⟨v, H, I, r, h⟩
  rcases l with ⟨hk, hm⟩ | ⟨hk, c, hc, hcell⟩
  · exact wpAny_Name (wpAny_loadName_local I.ok.kind hk hn hm fin) hd
  · rcases hk with hk | hk
    · exact wpAny_Name (wpAny_loadName_cell I.ok.kind hk hc hcell fin) hd
    · exact wpAny_Name (wpAny_loadName_free I.ok.kind hk hc hcell fin hcd) hd
theorem pe_int {i j pos} : PE X (.Constant (.int i) j pos) (tC (.int i)) := fun _ _ _ H _ I h => wpAny_Constant_int ⟨.int i, H, I.tok _, ⟨_, rfl⟩, h⟩
theorem pe_bl {b j pos} : PE X (.Constant (.bool b) j pos) (tC (.bl b)) := fun _ _ _ H _ I h => Constant_bool ⟨.bl b, H, I, rfl, h⟩
theorem pe_non {j pos} : PE X (.Constant .none j pos) (tC .non) := fun _ _ _ H _ I h => Constant_none ⟨.non, H, I, rfl, h⟩
theorem pe_str {x j pos} : PE X (.Constant (.str x) j pos) (tC (.str x)) := fun _ _ _ H _ I h => Calls.Constant_str ⟨.str x, H, I.tok _, ⟨_, rfl⟩, h⟩

/-- a global name of the def -/
def Gl (X : Cx) (x : Str) : Prop := X.env.kindOf x = some .globalImplicit
theorem ld_glob {E : Value → Shared → Prop} {pins : List (Addr × Obj)} {s : Shared} {σ : St} {H : Hp} {x : Str} {u : Value} {pos : Pos} {Q : Value → Shared → Prop} (I : Inv X pins σ H s) (hg : Gl X x) (hm : X.mg x = some u) (h : Q u s)
    (hd : (x == ("__debug__" : Str)) = false := by decide) : wpAny (model X.prog X.w) X.A (eval (.Name x pos) X.env) Q E s :=
  Calls.Name_function_global I.ok.kind hg (Calls.loadGlobal_global (by rw [I.ok.glob]; exact I.mod.glob.keeps I.bk) hm h) hd
theorem ld_blt {E : Value → Shared → Prop} {pins : List (Addr × Obj)} {s : Shared} {σ : St} {H : Hp} {x : Str} {u : Value} {pos : Pos} {Q : Value → Shared → Prop} (I : Inv X pins σ H s) (hg : Gl X x) (hm : X.mg x = none) (hv : bootBuiltins x = some u) (h : Q u s)
    (hn : x ≠ "__name__" := by decide) (hd : (x == ("__debug__" : Str)) = false := by decide) : wpAny (model X.prog X.w) X.A (eval (.Name x pos) X.env) Q E s := by
  obtain ⟨mb, h1, h2⟩ := I.mod.blt
  exact Calls.Name_function_global I.ok.kind hg (Calls.loadGlobal_builtin (by rw [I.ok.glob]; exact I.mod.glob.keeps I.bk) hm (by rw [I.ok.blt]; exact h1.keeps I.bk) ((h2 x hn).trans hv) h) hd
/-- a module's constant, a class, a function, as a value -/
theorem pe_glob {x : Str} {v : V} {u : Value} {pos : Pos} (hg : Gl X x) (hm : X.mg x = some u) (r : RelV v u) (hd : (x == ("__debug__" : Str)) = false := by decide) : PE X (.Name x pos) (tC v) :=
  fun _ _ _ H _ I h => ld_glob I hg hm ⟨v, H, I, r, h⟩ hd
theorem pe_bltn {x : Str} {v : V} {u : Value} {pos : Pos} (hg : Gl X x) (hm : X.mg x = none) (hv : bootBuiltins x = some u) (r : RelV v u) (hn : x ≠ "__name__" := by decide) (hd : (x == ("__debug__" : Str)) = false := by decide) : PE X (.Name x pos) (tC v) :=
  fun _ _ _ H _ I h => ld_blt I hg hm hv ⟨v, H, I, r, h⟩ hn hd

/-! ### arithmetic -/
variable {a b : Expr} {ta tb : TE} {pos : Pos}

/-! ### comparisons -/
def PC (X : Cx) (op : CmpOp) (a b : Expr) (t : TE) : Prop :=
  ∀ (pins : List (Addr × Obj)) (s : Shared) (σ : St) (H : Hp) (Q : VK), Inv X pins σ H s → t σ H Q →
    wpAny (model X.prog X.w) X.A (eval a X.env) (fun v s₁ => wpAny (model X.prog X.w) X.A (eval b X.env) (fun u s₂ => wpAny (model X.prog X.w) X.A (compareOp op v u) (EP X pins σ Q) X.xe s₂) X.xe s₁) X.xe s
theorem nobehind (b : Expr) {op : CmpOp} (h : op ≠ .In) (h2 : op ≠ .NotIn) : behindInMarks op b = false := by
  have e1 : (op == CmpOp.In) = false := by cases op <;> first | rfl | exact absurd rfl h
  have e2 : (op == CmpOp.NotIn) = false := by cases op <;> first | rfl | exact absurd rfl h2
  cases b <;> simp [behindInMarks, e1, e2]
/-- a comparison as a value, as a test -/
def tB (t : TE) : TT := fun σ H Q => t σ H fun x H1 => ∃ c, x = .bl c ∧ Q c H1
theorem pt_cmp {op : CmpOp} {t : TE} (h : PC X op a b t) (h1 : behindInMarks op b = false := by first | exact nobehind _ (by decide) (by decide) | rfl) : PT X (.Compare a [op] [b] pos) (tB t) := by
  intro pins s σ H Q I hw
  refine wpAny_isTrue_Compare1 (thn (h pins s σ H _ I hw) fun v s1 h1 => thn h1 fun u s2 h2 => thn h2 fun c s3 ⟨x, H1, I1, r1, q1⟩ => ?_) h1
  obtain ⟨d, rfl, q⟩ := q1
  cases r1
  exact wpAny_truthy_bool ⟨H1, I1, q⟩

/-! ### and, or, not -/
variable {tA tB' : TT} {rest : List Expr}
def tOr (t u : TT) : TT := fun σ H Q => t σ H fun c H1 => if c = true then Q true H1 else u σ H1 Q
def tNot (t : TT) : TT := fun σ H Q => t σ H fun c H1 => Q (!c) H1
theorem pw_or1 (ha : PT X a tA) : PW X (.BoolOp .Or [a] pos) tA := by
  intro wh pins s σ H Q I h
  refine isTrue_or (thn (ha pins s σ H Q I h) fun c s1 e => ?_)
  cases c with
  | false => exact isTrue_or_nil e
  | true => exact e
theorem pw_or (ha : PT X a tA) (hb : PW X (.BoolOp .Or (b :: rest) pos) tB') : PW X (.BoolOp .Or (a :: b :: rest) pos) (tOr tA tB') := by
  intro wh pins s σ H Q I h
  refine isTrue_or (thn (ha pins s σ H _ I h) fun c s1 ⟨H1, I1, q1⟩ => ?_)
  cases c with
  | true => exact ⟨H1, I1, q1⟩
  | false => exact hb wh pins s1 σ H1 Q I1 q1
theorem pt_not (ha : PT X a tA) : PT X (.UnaryOp .Not a pos) (tNot tA) := by
  intro pins s σ H Q I h
  exact isTrue_not (ha pins s σ H (fun c H1 => Q (!c) H1) I h)
/-- .. as values (bools) -/
def tAndV (ta tb : TE) : TE := fun σ H Q => ta σ H fun x H1 => ∃ c, x = .bl c ∧ if c = true then tb σ H1 Q else Q (.bl false) H1
def tOrV (ta tb : TE) : TE := fun σ H Q => ta σ H fun x H1 => ∃ c, x = .bl c ∧ if c = true then Q (.bl true) H1 else tb σ H1 Q
def tNotV (ta : TE) : TE := fun σ H Q => ta σ H fun x H1 => ∃ c, x = .bl c ∧ Q (.bl (!c)) H1
theorem pe_one {op} {t : TE} (h : PE X a t) : PE X (.BoolOp op [a] pos) t := fun pins s σ H Q I hw => BoolOp_one (h pins s σ H Q I hw)
theorem pe_and (ha : PE X a ta) (hb : PE X (.BoolOp .And (b :: rest) pos) tb) : PE X (.BoolOp .And (a :: b :: rest) pos) (tAndV ta tb) := by
  intro pins s σ H Q I h
  refine BoolOp_and (thn (ha pins s σ H _ I h) fun v s1 ⟨x, H1, I1, r1, q1⟩ => ?_)
  obtain ⟨c, rfl, q1⟩ := q1
  cases r1
  refine wpAny_truthy_bool ?_
  cases c with
  | true => exact hb pins s1 σ H1 Q I1 q1
  | false => exact ⟨.bl false, H1, I1, rfl, q1⟩
theorem pe_or (ha : PE X a ta) (hb : PE X (.BoolOp .Or (b :: rest) pos) tb) : PE X (.BoolOp .Or (a :: b :: rest) pos) (tOrV ta tb) := by
  intro pins s σ H Q I h
  refine BoolOp_or (thn (ha pins s σ H _ I h) fun v s1 ⟨x, H1, I1, r1, q1⟩ => ?_)
  obtain ⟨c, rfl, q1⟩ := q1
  cases r1
  refine wpAny_truthy_bool ?_
  cases c with
  | false => exact hb pins s1 σ H1 Q I1 q1
  | true => exact ⟨.bl true, H1, I1, rfl, q1⟩
theorem pe_not (ha : PE X a ta) : PE X (.UnaryOp .Not a pos) (tNotV ta) := by
  intro pins s σ H Q I h
  refine UnaryOp_ (thn (ha pins s σ H _ I h) fun v s1 ⟨x, H1, I1, r1, q1⟩ => ?_)
  obtain ⟨c, rfl, q1⟩ := q1
  cases r1
  exact not_of (wpAny_truthy_bool ⟨.bl (!c), H1, I1, rfl, q1⟩)
/-- a if t else b -/
def tIf (t : TT) (ta tb : TE) : TE := fun σ H Q => t σ H fun c H1 => if c = true then ta σ H1 Q else tb σ H1 Q
theorem pe_ifExp {c : Expr} (hc : PT X c tA) (ha : PE X a ta) (hb : PE X b tb) : PE X (.IfExp c a b pos) (tIf tA ta tb) := by
  intro pins s σ H Q I h
  refine wpAny_IfExp (thn (hc pins s σ H _ I h) fun d s1 ⟨H1, I1, q1⟩ => ?_)
  cases d with
  | true => exact ha pins s1 σ H1 Q I1 q1
  | false => exact hb pins s1 σ H1 Q I1 q1
end
end L2

namespace L2
open PySem PySem.Spec PyProof.Rows

/-! ### a list, a tuple that is read: tracked, frozen, or an object of the module -/
def SqL (K : PySem.W.Frag) (H : Hp) (a : Addr) (xs : List V) : Prop :=
  Rd H a (.lst xs) ∨
    ∃ (o : Obj) (its : Array Value) (n : Nat), K.lookup a = some o ∧ o.cls = .type "list" ∧ o.dict = none ∧ o.data = .seq its n ∧ its.size ≤ sizeLine ∧ Vals xs its.toList
def SqT (K : PySem.W.Frag) (H : Hp) (a : Addr) (xs : List V) : Prop :=
  Rd H a (.tup xs) ∨
    ∃ (o : Obj) (its : Array Value) (n : Nat), K.lookup a = some o ∧ o.cls = .type "tuple" ∧ o.data = .seq its n ∧ its.size ≤ sizeLine ∧ Vals xs its.toList
def absV : Value → Option V
  | .none => some .non
  | .bool b => some (.bl b)
  | .int i _ => some (.int i)
  | .str x _ => some (.str x)
  | .bytes b _ => some (.byt b)
  | .float b _ => some (.flt b)
  | .ref a => some (.ref a)
  | .type n => some (.ty n)
  | _ => none
theorem RelV.abs {x : V} {u : Value} (r : RelV x u) : absV u = some x := by
  cases x with
  | non => cases r; rfl
  | bl _ => cases r; rfl
  | int _ => obtain ⟨t, rfl⟩ := r; rfl
  | str _ => obtain ⟨t, rfl⟩ := r; rfl
  | byt _ => obtain ⟨t, rfl⟩ := r; rfl
  | flt _ => obtain ⟨t, rfl⟩ := r; rfl
  | ref _ => cases r; rfl
  | ty _ => cases r; rfl
theorem RelV.inj {x y : V} {u : Value} (r : RelV x u) (q : RelV y u) : x = y := Option.some.inj (r.abs.symm.trans q.abs)
theorem Vals.inj : ∀ {xs ys : List V} {us : List Value}, Vals xs us → Vals ys us → xs = ys
  | _, _, _, .nil, .nil => rfl
  | _, _, _, .cons r t, .cons r' t' => by rw [r.inj r', Vals.inj t t']
section
variable {X : Cx} {pins : List (Addr × Obj)} {σ : St} {H : Hp} {s : Shared} {a : Addr} {xs ys : List V}
theorem SqL.of {K : PySem.W.Frag} (h : H a = some (.lst xs)) : SqL K H a xs := .inl (.inl h)
theorem SqT.of {K : PySem.W.Frag} (h : H a = some (.tup xs)) : SqT K H a xs := .inl (.inl h)
theorem Inv.list (I : Inv X pins σ H s) (h : SqL X.K H a xs) : ∃ its : List Value, Vals xs its ∧ PlainL s.heap a its.toArray ∧ xs.length ≤ sizeLine := by
  rcases h with h | ⟨o, its, n, hk, hc, hd, hs, hz, r⟩
  · obtain ⟨z, its, n, r, e⟩ := h.ok I.hok
    exact ⟨its, r, ⟨_, n, e, rfl, rfl, rfl⟩, z⟩
  · refine ⟨its.toList, r, ⟨o, n, I.kIn a o hk, hc, hd, by simpa using hs⟩, ?_⟩
    have e := r.length
    simp only [Array.length_toList] at e
    omega
theorem Inv.tuple (I : Inv X pins σ H s) (h : SqT X.K H a xs) : ∃ its : List Value, Vals xs its ∧ IsTup s.heap a its.toArray ∧ xs.length ≤ sizeLine := by
  rcases h with h | ⟨o, its, n, hk, hc, hs, hz, r⟩
  · obtain ⟨z, its, r, p⟩ := h.ok I.hok
    exact ⟨its, r, p, z⟩
  · refine ⟨its.toList, r, ⟨o, I.kIn a o hk, hc, n, by simpa using hs⟩, ?_⟩
    have e := r.length
    simp only [Array.length_toList] at e
    omega
theorem Inv.list_inj (I : Inv X pins σ H s) (h : SqL X.K H a xs) (h' : SqL X.K H a ys) : xs = ys := by
  obtain ⟨its, r, ⟨o, n, e, _, _, d⟩, _⟩ := I.list h
  obtain ⟨its', r', ⟨o', n', e', _, _, d'⟩, _⟩ := I.list h'
  rw [e] at e'; cases e'
  rw [d] at d'
  injection d' with d1 _
  have : its = its' := by simpa using congrArg Array.toList d1
  subst this
  exact r.inj r'
theorem Inv.tuple_inj (I : Inv X pins σ H s) (h : SqT X.K H a xs) (h' : SqT X.K H a ys) : xs = ys := by
  obtain ⟨its, r, ⟨o, e, _, n, d⟩, _⟩ := I.tuple h
  obtain ⟨its', r', ⟨o', e', _, n', d'⟩, _⟩ := I.tuple h'
  rw [e] at e'; cases e'
  rw [d] at d'
  injection d' with d1 _
  have : its = its' := by simpa using congrArg Array.toList d1
  subst this
  exact r.inj r'
end

/-! ### another wish about exceptions -/
abbrev Cx.wish (X : Cx) (E : Value → Shared → Prop) : Cx := { X with xe := E }
/-- no exception leaves -/
abbrev Cx.nox (X : Cx) : Cx := X.wish fun _ _ => False
theorem Cx.Ok.wish {X : Cx} (ok : X.Ok) (E : Value → Shared → Prop) : (X.wish E).Ok :=
  ⟨ok.mod, ok.kind, ok.glob, ok.blt, ok.above, ok.inj, ok.has, ok.cab, ok.hd, ok.frames, ok.stk, ok.exf, ok.bs, ok.bsz, ok.noex, ok.exfs, ok.funs, ok.frf⟩
theorem Cx.Ok.unwish {X : Cx} {E : Value → Shared → Prop} (ok : (X.wish E).Ok) : X.Ok :=
  ⟨ok.mod, ok.kind, ok.glob, ok.blt, ok.above, ok.inj, ok.has, ok.cab, ok.hd, ok.frames, ok.stk, ok.exf, ok.bs, ok.bsz, ok.noex, ok.exfs, ok.funs, ok.frf⟩
section
variable {X : Cx} {pins : List (Addr × Obj)} {σ : St} {H : Hp} {s : Shared} {E : Value → Shared → Prop}
theorem Inv.wish (I : Inv X pins σ H s) (E : Value → Shared → Prop) : Inv (X.wish E) pins σ H s := ⟨I.ok.wish E, I.os, I.bare, I.base, I.loc, I.cell, I.free, I.freeC, I.pin, I.hok, I.len⟩
theorem Inv.unwish (I : Inv (X.wish E) pins σ H s) : Inv X pins σ H s := ⟨I.ok.unwish, I.os, I.bare, I.base, I.loc, I.cell, I.free, I.freeC, I.pin, I.hok, I.len⟩
theorem SP.unwish {D : Ends} {f : Flow} {s' : Shared} (h : SP (X.wish E) pins D f s') : SP X pins D f s' := by
  cases f with
  | next => obtain ⟨σ', H', I, q⟩ := h; exact ⟨σ', H', I.unwish, q⟩
  | brk => obtain ⟨σ', H', I, q⟩ := h; exact ⟨σ', H', I.unwish, q⟩
  | cont => obtain ⟨σ', H', I, q⟩ := h; exact ⟨σ', H', I.unwish, q⟩
  | ret u => obtain ⟨v, σ', H', I, r, q⟩ := h; exact ⟨v, σ', H', I.unwish, r, q⟩
theorem PSs.nox {st : List Stmt} {t : TS} (h : PSs X.nox st t) : PSs X st t := fun pins s σ H D I hw =>
  wpAny_mono (h pins s σ H D (I.wish _) hw) (fun _ _ q => q.unwish) fun _ _ z => False.elim z
end

/-! ### blocks and small statements -/
section
variable {X : Cx} {st : Stmt} {rest : List Stmt} {t u : TS} {e : Expr} {te : TE} {pos : Pos}
def tNext : TS := fun D σ H => D.nx σ H
def tSeq (t u : TS) : TS := fun D σ H => t { D with nx := u D } σ H
theorem pss_nil : PSs X [] tNext := fun _ _ σ H _ I h => wpAny_execs_nil ⟨σ, H, I, h⟩
theorem pss_cons (h1 : PS X st t) (h2 : PSs X rest u) : PSs X (st :: rest) (tSeq t u) := by
  intro pins s σ H D I h
  refine wpAny_execs_cons (thn (h1 pins s σ H { D with nx := u D } I h) fun f s1 q => ?_)
  cases f with
  | next =>
    obtain ⟨σ', H', I', q⟩ := q
    exact h2 pins s1 σ' H' D I' q
  | ret v => exact q
  | brk => exact q
  | cont => exact q
theorem pss_one (h1 : PS X st t) : PSs X [st] t := by
  intro pins s σ H D I h
  refine wpAny_execs_cons (thn (h1 pins s σ H D I h) fun f s1 q => ?_)
  cases f with
  | next => exact wpAny_execs_nil q
  | ret v => exact q
  | brk => exact q
  | cont => exact q
/-- in a def's body nothing is shown -/
theorem Inv.quiet {pins : List (Addr × Obj)} {σ : St} {H : Hp} {s : Shared} (I : Inv X pins σ H s) : interactive X.env = false := by simp [interactive, I.ok.kind]
/-- an expression whose value is dropped -/
def tDrop (te : TE) : TS := fun D σ H => te σ H fun _ H1 => D.nx σ H1
theorem ps_expr (he : PE X e te) (hs : swapsWith e none pos.line X.env = pure false := by rfl) : PS X (.Expr e pos) (tDrop te) := by
  intro pins s σ H D I h
  exact wpAny_Expr_any (thn (he pins s σ H _ I h) fun v s1 ⟨x, H1, I1, r1, q1⟩ => ⟨σ, H1, I1, q1⟩) I.quiet hs
def tRet (te : TE) : TS := fun D σ H => te σ H D.rt
theorem ps_ret (he : PE X e te) : PS X (.Return (some e) pos) (tRet te) := by
  intro pins s σ H D I h
  exact wpAny_Return_some (thn (he pins s σ H _ I h) fun v s1 ⟨x, H1, I1, r1, q1⟩ => ⟨x, σ, H1, I1, r1, q1⟩)
def tIfS (c : TT) (t u : TS) : TS := fun D σ H => c σ H fun b H1 => if b = true then t D σ H1 else u D σ H1
theorem ps_if {c : Expr} {a b : List Stmt} {tc : TT} (hc : PT X c tc) (ha : PSs X a t) (hb : PSs X b u) : PS X (.If c a b pos) (tIfS tc t u) := by
  intro pins s σ H D I h
  refine wpAny_If (thn (hc pins s σ H _ I h) fun d s1 ⟨H1, I1, q1⟩ => ?_)
  cases d with
  | true => exact ha pins s1 σ H1 D I1 q1
  | false => exact hb pins s1 σ H1 D I1 q1
end

/-! ### targets -/
abbrev TG := V → St → Hp → (St → Hp → Prop) → Prop
abbrev TGs := List V → St → Hp → (St → Hp → Prop) → Prop
def PG (X : Cx) (target : Expr) (t : TG) : Prop :=
  ∀ (pins : List (Addr × Obj)) (s : Shared) (σ : St) (H : Hp) (v : V) (u : Value) (Q : St → Hp → Prop), Inv X pins σ H s → RelV v u → t v σ H Q →
    wpAny (model X.prog X.w) X.A (assign target X.env u) (fun _ s' => ∃ σ' H', Inv X pins σ' H' s' ∧ Q σ' H') X.xe s
/-- several targets, one after another -/
def PGs (X : Cx) (ts : List Expr) (t : TGs) : Prop :=
  ∀ (pins : List (Addr × Obj)) (s : Shared) (σ : St) (H : Hp) (vs : List V) (us : List Value) (Q : St → Hp → Prop), Inv X pins σ H s → Vals vs us → t vs σ H Q →
    wpAny (model X.prog X.w) X.A (assignInOrder ((assignEach ts X.env).map (·.2)) us) (fun _ s' => ∃ σ' H', Inv X pins σ' H' s' ∧ Q σ' H') X.xe s
section
variable {X : Cx} {pos : Pos}
def gName (i : Nat) : TG := fun v σ H Q => Q (σ.set i (some v)) H
theorem pg_name {i : Nat} {x : Str} (hN : X.N.Nodup) (hi : X.N[i]? = some x) (hx : Loc X.env.scope x) (hf : X.fn x = true ∨ X.env.scope.names.lookup x = some .local := by first | exact .inl rfl | exact .inr rfl | assumption) : PG X (.Name x pos) (gName i) := by
  intro pins s σ H v u Q I r h
  exact wpAny_assign_Name (store_ok I hN hi hx r (fun s' I' => ⟨_, H, I', h⟩) hf)
def gNil : TGs := fun vs σ H Q => vs = [] ∧ Q σ H
def gCons (t : TG) (u : TGs) : TGs := fun vs σ H Q => ∃ v r, vs = v :: r ∧ t v σ H fun σ' H' => u r σ' H' Q
theorem pgs_nil : PGs X [] gNil := by
  intro pins s σ H vs us Q I r h
  obtain ⟨e, h⟩ := h
  subst e
  cases r
  exact assignInOrder_nil ⟨σ, H, I, h⟩
theorem pgs_cons {e : Expr} {es : List Expr} {t : TG} {u : TGs} (h1 : PG X e t) (h2 : PGs X es u)
    (hs : (assignEach (e :: es) X.env).map (·.2) = assign e X.env :: (assignEach es X.env).map (·.2) := by rfl) : PGs X (e :: es) (gCons t u) := by
  intro pins s σ H vs us Q I r h
  obtain ⟨v, vr, e1, h⟩ := h
  subst e1
  cases r with
  | cons r rr =>
    rw [hs]
    refine assignInOrder_cons (thn (h1 pins s σ H _ _ _ I r h) fun _ s1 ⟨σ1, H1, I1, q1⟩ => ?_)
    exact h2 pins s1 σ1 H1 _ _ Q I1 rr q1
/-- (a, b, ..) = a tuple of that length -/
def gTup (K : PySem.W.Frag) (n : Nat) (t : TGs) : TG := fun v σ H Q => ∃ a xs, v = .ref a ∧ SqT K H a xs ∧ xs.length = n ∧ t xs σ H Q
theorem pg_tup {es : List Expr} {k : Nat} {t : TGs} {n : Nat} (hc : X.calm = true) (h : PGs X es t)
    (hn : (assignEach es X.env).length = n := by rfl) (hst : (assignEach es X.env).findIdx? (·.1) = none := by rfl) : PG X (.Tuple es k pos) (gTup X.K n t) := by
  intro pins s σ H v u Q I r hw
  obtain ⟨a, xs, e1, hq, hl, hw⟩ := hw
  subst e1
  cases r
  obtain ⟨its, rv, ht, hz⟩ := I.tuple hq
  refine assign_Tuple_tuple (I.ok.hd hc) ht (by simp [hn, ← hl, rv.length]) hst fun h' hx => ?_
  have I1 : Inv X pins σ H { s with heap := h' } := I.kept (t' := s.toks) fun b o e => hx b o (Nat.ne_of_lt (Heap.lt_size e)) e
  exact h pins _ σ H xs _ Q I1 (by simpa using rv) hw
/-- target = value -/
def tAsg (te : TE) (g : TG) : TS := fun D σ H => te σ H fun x H1 => g x σ H1 D.nx
/-- name = value -/
theorem ps_set {i : Nat} {x : Str} {e : Expr} {te : TE} {pos' : Pos} (hN : X.N.Nodup) (hi : X.N[i]? = some x) (hx : Loc X.env.scope x) (he : PE X e te) (hs : swapsWith e (some (.Name x pos')) pos.line X.env = pure false := by rfl) (hf : X.fn x = true ∨ X.env.scope.names.lookup x = some .local := by first | exact .inl rfl | exact .inr rfl | assumption) :
    PS X (.Assign [.Name x pos'] e pos) (tAsg te (gName i)) := by
  intro pins s σ H D I h
  refine wpAny_Assign_Name (thn (he pins s σ H _ I h) fun v s1 ⟨y, H1, I1, r1, q1⟩ => ?_) hs
  exact store_ok I1 hN hi hx r1 (fun s2 I2 => ⟨_, H1, I2, q1⟩) hf
end

/-! ### while -/
section
variable {X : Cx} {pos : Pos}
/-- the invariant W with its measure -/
def tWhile (c : TT) (tb : TS) : TS := fun D σ H => ∃ W : Nat → St → Hp → Prop, (∃ m, W m σ H) ∧ ∀ m σ H, W m σ H →
  c σ H fun b H1 => if b = true then ∃ N : St → Hp → Prop, (∀ σ' H', N σ' H' → ∃ m', m' < m ∧ W m' σ' H') ∧ tb { D with nx := N, ct := N, bk := D.nx } σ H1 else D.nx σ H1
theorem ps_while {c : Expr} {body : List Stmt} {tc : TT} {tb : TS} (hp : PassesOwn (model X.prog X.w) X.A X.env X.xe) (hc : PT X c tc) (hb : PSs X body tb) : PS X (.While c body [] pos) (tWhile tc tb) := by
  intro pins s σ H D I h
  obtain ⟨W, ⟨m0, w0⟩, turn⟩ := h
  refine wpAny_While (codeAny_whileLoop (fun n s' => ∃ σ' H', Inv X pins σ' H' s' ∧ W n σ' H') ?_ m0 ⟨σ, H, I, w0⟩)
  rintro n s1 ⟨σ1, H1, I1, w1⟩
  refine wpAny_passesOwn hp (thn (hc pins s1 σ1 H1 _ I1 (turn n σ1 H1 w1)) fun b s2 ⟨H2, I2, q2⟩ => ?_)
  cases b with
  | true =>
    obtain ⟨N, hN, q2⟩ := q2
    rw [if_pos rfl]
    refine wpAny_passesOwn hp (thn (hb pins s2 σ1 H2 _ I2 q2) fun f s3 q3 => ?_)
    cases f with
    | next =>
      obtain ⟨σ3, H3, I3, n3⟩ := q3
      obtain ⟨m', hm, w3⟩ := hN σ3 H3 n3
      exact ⟨m', hm, σ3, H3, I3, w3⟩
    | cont =>
      obtain ⟨σ3, H3, I3, n3⟩ := q3
      obtain ⟨m', hm, w3⟩ := hN σ3 H3 n3
      exact ⟨m', hm, σ3, H3, I3, w3⟩
    | brk => exact q3
    | ret v => exact q3
  | false =>
    rw [if_neg Bool.false_ne_true]
    exact wpAny_execs_nil ⟨σ1, H2, I2, q2⟩
end

/-! ### what a loop or a comprehension walks -/
/-- at turn i: it yields x (the heap may grow), or it stops -/
structure It where
  go : Nat → Hp → Prop
  yld : Nat → Hp → V → Hp → Prop
  stop : Nat → Hp → Prop
/-- the iterator's own objects may turn: they are not the frame's, not pinned, younger than the entry (or a comprehension's own) -/
def FpOk (X : Cx) (pins : List (Addr × Obj)) (H : Hp) (b : Addr) : Prop :=
  H b = none ∧ b ≠ X.env.locals ∧ b ∉ X.fs ∧ (b ∈ X.ex ∨ X.s₀.heap.objs.size ≤ b) ∧ (∀ x c, X.env.cells.lookup x = some c → c ≠ b) ∧ ∀ p ∈ X.pn ++ pins, p.1 ≠ b
theorem Inv.fpOk {X : Cx} {pins : List (Addr × Obj)} {σ : St} {H H' : Hp} {s : Shared} {b : Addr} (I : Inv X pins σ H s) (hb : s.heap.objs.size ≤ b) (hn : H' b = none) : FpOk X pins H' b := by
  refine ⟨hn, Nat.ne_of_gt (Nat.lt_of_lt_of_le I.lt hb), I.nofs hb, .inr (Nat.le_trans I.sz hb), fun x c e z => ?_, fun p hp z => ?_⟩
  · obtain ⟨v, q⟩ := I.cell x c e
    exact absurd (Nat.lt_of_lt_of_le q.lt (by rw [z]; exact hb)) (Nat.lt_irrefl _)
  · exact absurd (Nat.lt_of_lt_of_le (Heap.lt_size (I.pin p hp).1) (by rw [z]; exact hb)) (Nat.lt_irrefl _)
structure Turn (P : Program) (w : World) (K : PySem.W.Frag) (tg : Expr) (J : It) (fp : List Addr) (it : Addr) (tn : Nat → Heap → Prop) : Prop where
  mem : it ∈ fp
  obj : ∀ i h, tn i h → ∀ b ∈ fp, ∃ o, h.get? b = some o ∧ ∀ v, o.data ≠ .cell v
  keep : ∀ i h h', tn i h → (∀ b ∈ fp, ∀ o, h.get? b = some o → h'.get? b = some o) → tn i h'
  item : ∀ (X : Cx), X.prog = P → X.w = w → X.K = K → X.calm = true → ∀ (i : Nat) (pins : List (Addr × Obj)) (s : Shared) (σ : St) (H : Hp) (E : Value → Shared → Prop), Inv X pins σ H s → (∀ b ∈ fp, FpOk X pins H b) → tn i s.heap → J.go i H →
    wpAny (model P w) X.A (pyNext (.ref it)) (fun r s1 => ∃ u, r = some u ∧
      wpAny (model P w) X.A (letOwnedTupleGo tg (.ref it) u) (fun _ s2 => ∃ x H', Inv X pins σ H' s2 ∧ RelV x u ∧ J.yld i H x H' ∧ tn (i + 1) s2.heap ∧ ∀ b ∈ fp, H' b = none) E s1) E s
  done : ∀ (X : Cx), X.prog = P → X.w = w → X.K = K → X.calm = true → ∀ (i : Nat) (pins : List (Addr × Obj)) (s : Shared) (σ : St) (H : Hp) (E : Value → Shared → Prop), Inv X pins σ H s → (∀ b ∈ fp, FpOk X pins H b) → tn i s.heap → J.stop i H →
    wpAny (model P w) X.A (pyNext (.ref it)) (fun r s1 => r = none ∧ Inv X pins σ H s1) E s
  self : ∀ (A : Around) (i : Nat) (s : Shared) (Q : Value → Shared → Prop) (E : Value → Shared → Prop), tn i s.heap → Q (.ref it) s → wpAny (model P w) A (pyIter (.ref it)) Q E s
abbrev TI := St → Hp → (It → Hp → Prop) → Prop
/-- an iterator has come -/
def PIE (X : Cx) (pins : List (Addr × Obj)) (σ : St) (tg : Expr) (R : It → Hp → Prop) (itv : Value) (s2 : Shared) : Prop :=
  ∃ (it : Addr) (fp : List Addr) (tn : Nat → Heap → Prop) (J : It) (H' : Hp), itv = .ref it ∧ Inv X pins σ H' s2 ∧ Turn X.prog X.w X.K tg J fp it tn ∧ tn 0 s2.heap ∧ (∀ b ∈ fp, FpOk X pins H' b) ∧ R J H'
def PI (X : Cx) (tg iter : Expr) (wi : TI) : Prop :=
  ∀ (pins : List (Addr × Obj)) (s : Shared) (σ : St) (H : Hp) (R : It → Hp → Prop), Inv X pins σ H s → wi σ H R →
    wpAny (model X.prog X.w) X.A (eval iter X.env) (fun v s1 => wpAny (model X.prog X.w) X.A (pyIter v) (PIE X pins σ tg R) X.xe s1) X.xe s

/-- the step ahead of the store is nothing for an iterator that keeps no tuple -/
theorem go_of {M : Model} {A : Around} {E : Value → Shared → Prop} {s : Shared} {tg : Expr} {it : Addr} {u : Value} {o : Obj} {n : String} {vs : Array Value} {Q : Unit → Shared → Prop} (ho : s.heap.get? it = some o) (hc : o.cls = .type n) (hd : o.data = .fields vs)
    (hn : ["enumerate", "zip", "dict_itemiterator", "dict_reverseitemiterator", "odict_iterator", "itertools.zip_longest", "itertools.pairwise"].contains n = false) (hQ : Q () s) : wpAny M A (letOwnedTupleGo tg (.ref it) u) Q E s := by
  unfold letOwnedTupleGo
  cases tg <;> first
    | exact wpAny_pure hQ
    | (cases u <;> first
        | exact wpAny_pure hQ
        | (refine wpAny_bind (wpAny_load ho ?_)
           rw [hc, hd]
           show wpAny M A (if (["enumerate", "zip", "dict_itemiterator", "dict_reverseitemiterator", "odict_iterator", "itertools.zip_longest", "itertools.pairwise"].contains n && vs[0]? == some (rawInt _)) = true then _ else _) Q E s
           rw [if_neg (by intro h; rw [hn, Bool.false_and] at h; cases h)]
           exact wpAny_pure hQ))

/-- the list at a, as it stands at each turn (a loop may append to it) -/
def Itl (K : PySem.W.Frag) (a : Addr) : It :=
  ⟨fun i H => ∃ xs x, SqL K H a xs ∧ xs[i]? = some x, fun i H x H' => H' = H ∧ ∀ xs, SqL K H a xs → xs[i]? = some x, fun i H => ∃ xs, SqL K H a xs ∧ xs.length ≤ i⟩
def Itt (K : PySem.W.Frag) (a : Addr) : It :=
  ⟨fun i H => ∃ xs x, SqT K H a xs ∧ xs[i]? = some x, fun i H x H' => H' = H ∧ ∀ xs, SqT K H a xs → xs[i]? = some x, fun i H => ∃ xs, SqT K H a xs ∧ xs.length ≤ i⟩
/-- lo, lo + 1, .. (n of them) -/
def Itr (lo : Int) (n : Nat) : It := ⟨fun i _ => i < n, fun i H x H' => H' = H ∧ x = .int (lo + i), fun i _ => n ≤ i⟩
theorem turn_list {P : Program} {w : World} {K : PySem.W.Frag} {tg : Expr} (a it : Addr) : Turn P w K tg (Itl K a) [it] it (fun i h => h.IsListIter it a i) where
  mem := by simp
  obj := fun i h st b hb => by
    have e : b = it := by simpa using hb
    subst e
    obtain ⟨o, e, c, d⟩ := st
    exact ⟨o, e, fun v z => by rw [d] at z; cases z⟩
  keep := fun i h h' st k => st.at fun o e => k it (by simp) o e
  item := by
    intro X hP hw hK hc i pins s σ H E I hf st hg
    subst hP hw hK
    obtain ⟨xs, x, hq, hx⟩ := hg
    obtain ⟨its, rv, p, hz⟩ := I.list hq
    obtain ⟨u, hu, ru⟩ := rv.get hx
    obtain ⟨f0, f1, f2, f3, f4, f5⟩ := hf it (by simp)
    refine wpAny_pyNext_list_item st p.isList (x := u) (by simpa using hu) fun h' st' sb => ?_
    have I1 : Inv X pins σ H { s with heap := h' } := I.turned (t' := s.toks) (fun b o hb e => (sb.2 b hb).trans e) f0 f1 f3 f4 f5
    obtain ⟨o, e, c, d⟩ := id st'
    exact ⟨u, rfl, go_of (s := { s with heap := h' }) e c d (by decide) ⟨x, H, I1, ru, ⟨rfl, fun ys hy => by rw [I.list_inj hy hq]; exact hx⟩, st', fun b hb => (hf b hb).1⟩⟩
  done := by
    intro X hP hw hK hc i pins s σ H E I hf st hg
    subst hP hw hK
    obtain ⟨xs, hq, hx⟩ := hg
    obtain ⟨its, rv, p, hz⟩ := I.list hq
    obtain ⟨f0, f1, f2, f3, f4, f5⟩ := hf it (by simp)
    have hl := rv.length
    exact wpAny_pyNext_list_end (I.ok.hd hc) st p.isList (by simp; omega) fun h' eb => ⟨rfl, I.turned (t' := s.toks) (fun b o hb e => eb b o hb e) f0 f1 f3 f4 f5⟩
  self := fun _ _ _ _ _ st h => wpAny_pyIter_listiter st h
theorem turn_tuple {P : Program} {w : World} {K : PySem.W.Frag} {tg : Expr} (a it : Addr) : Turn P w K tg (Itt K a) [it] it (fun i h => h.IsTupleIter it a i) where
  mem := by simp
  obj := fun i h st b hb => by
    have e : b = it := by simpa using hb
    subst e
    obtain ⟨o, e, c, d⟩ := st
    exact ⟨o, e, fun v z => by rw [d] at z; cases z⟩
  keep := fun i h h' st k => st.at fun o e => k it (by simp) o e
  item := by
    intro X hP hw hK hc i pins s σ H E I hf st hg
    subst hP hw hK
    obtain ⟨xs, x, hq, hx⟩ := hg
    obtain ⟨its, rv, p, hz⟩ := I.tuple hq
    obtain ⟨u, hu, ru⟩ := rv.get hx
    obtain ⟨f0, f1, f2, f3, f4, f5⟩ := hf it (by simp)
    refine wpAny_pyNext_tuple_item st (show s.heap.IsTuple a its.toArray from p) (x := u) (by simpa using hu) fun h' st' sb => ?_
    have I1 : Inv X pins σ H { s with heap := h' } := I.turned (t' := s.toks) (fun b o hb e => (sb.2 b hb).trans e) f0 f1 f3 f4 f5
    obtain ⟨o, e, c, d⟩ := id st'
    exact ⟨u, rfl, go_of (s := { s with heap := h' }) e c d (by decide) ⟨x, H, I1, ru, ⟨rfl, fun ys hy => by rw [I.tuple_inj hy hq]; exact hx⟩, st', fun b hb => (hf b hb).1⟩⟩
  done := by
    intro X hP hw hK hc i pins s σ H E I hf st hg
    subst hP hw hK
    obtain ⟨xs, hq, hx⟩ := hg
    obtain ⟨its, rv, p, hz⟩ := I.tuple hq
    obtain ⟨f0, f1, f2, f3, f4, f5⟩ := hf it (by simp)
    have hl := rv.length
    exact wpAny_pyNext_tuple_end (I.ok.hd hc) st (show s.heap.IsTuple a its.toArray from p) (by simp; omega) fun h' eb => ⟨rfl, I.turned (t' := s.toks) (fun b o hb e => eb b o hb e) f0 f1 f3 f4 f5⟩
  self := fun _ _ _ _ _ st h => wpAny_pyIter_tupleiter st h
theorem turn_range {P : Program} {w : World} {K : PySem.W.Frag} {tg : Expr} (it : Addr) (lo : Int) (n : Nat) : Turn P w K tg (Itr lo n) [it] it (fun i h => IsRangeIter h it (lo + (i : Nat) * 1) ((n : Int) - (i : Nat)) 1) where
  mem := by simp
  obj := fun i h st b hb => by
    have e : b = it := by simpa using hb
    subst e
    exact ⟨_, st, fun v z => by
      have z' : Data.fields _ = Data.cell v := z
      cases z'⟩
  keep := fun i h h' st k => k it (by simp) _ st
  item := by
    intro X hP hw hK hc i pins s σ H E I hf st hg
    subst hP hw hK
    obtain ⟨f0, f1, f2, f3, f4, f5⟩ := hf it (by simp)
    have W := Walks.range (prog := X.prog) (w := X.w) (I.ok.hd hc) it lo 1 n
    refine W.item i s _ _ hg st fun v h' tk hv st' kk => ?_
    obtain ⟨t, rfl⟩ := hv
    have I1 : Inv X pins σ H { s with heap := h', toks := tk } := I.turned (fun b o hb e => kk b o (by simpa using hb) e) f0 f1 f3 f4 f5
    refine ⟨_, rfl, go_of (s := { s with heap := h', toks := tk }) (n := "range_iterator") st' rfl rfl (by decide) ⟨.int (lo + i), H, I1, ⟨t, ?_⟩, ⟨rfl, rfl⟩, st', fun b hb => (hf b hb).1⟩⟩
    rw [Int.mul_one]
  done := by
    intro X hP hw hK hc i pins s σ H E I hf st hg
    subst hP hw hK
    obtain ⟨f0, f1, f2, f3, f4, f5⟩ := hf it (by simp)
    exact wpAny_pyNext_range_end (I.ok.hd hc) st (by have : n ≤ i := hg; omega) fun h' eb => ⟨rfl, I.turned (t' := s.toks) (fun b o hb e => eb b o hb e) f0 f1 f3 f4 f5⟩
  self := fun _ _ _ _ _ st h => wpAny_pyIter_rangeiter st h
end L2

namespace L2
open PySem PySem.Spec PyProof.Rows
section
variable {X : Cx} {tg : Expr}
def iList (K : PySem.W.Frag) (tl : TE) : TI := fun σ H R => tl σ H fun x H1 => ∃ a, x = .ref a ∧ (∃ xs, SqL K H1 a xs) ∧ R (Itl K a) H1
def iTup (K : PySem.W.Frag) (tl : TE) : TI := fun σ H R => tl σ H fun x H1 => ∃ a, x = .ref a ∧ (∃ xs, SqT K H1 a xs) ∧ R (Itt K a) H1
theorem pi_list {l : Expr} {tl : TE} (hl : PE X l tl) : PI X tg l (iList X.K tl) := by
  intro pins s σ H R I h
  refine thn (hl pins s σ H _ I h) fun v s1 ⟨x, H1, I1, r1, q1⟩ => ?_
  obtain ⟨a, e, ⟨xs, hq⟩, q⟩ := q1
  subst e
  cases r1
  obtain ⟨its, rv, p, hz⟩ := I1.list hq
  refine wpAny_pyIter_list p.isList ?_
  refine ⟨s1.heap.objs.size, [s1.heap.objs.size], _, _, H1, rfl, I1.kept (t' := s1.toks) fun b o e => Heap.get?_push_of_some _ e, turn_list a _, ⟨_, Heap.get?_push_size _ rfl, rfl, rfl⟩, fun b hb => ?_, q⟩
  have e : b = s1.heap.objs.size := by simpa using hb
  subst e
  exact I1.fpOk (Nat.le_refl _) (I1.hok.fresh (Nat.le_refl _))
theorem pi_tup {l : Expr} {tl : TE} (hl : PE X l tl) : PI X tg l (iTup X.K tl) := by
  intro pins s σ H R I h
  refine thn (hl pins s σ H _ I h) fun v s1 ⟨x, H1, I1, r1, q1⟩ => ?_
  obtain ⟨a, e, ⟨xs, hq⟩, q⟩ := q1
  subst e
  cases r1
  obtain ⟨its, rv, p, hz⟩ := I1.tuple hq
  refine wpAny_pyIter_tuple (show s1.heap.IsTuple a its.toArray from p) ?_
  refine ⟨s1.heap.objs.size, [s1.heap.objs.size], _, _, H1, rfl, I1.kept (t' := s1.toks) fun b o e => Heap.get?_push_of_some _ e, turn_tuple a _, ⟨_, Heap.get?_push_size _ rfl, rfl, rfl⟩, fun b hb => ?_, q⟩
  have e : b = s1.heap.objs.size := by simpa using hb
  subst e
  exact I1.fpOk (Nat.le_refl _) (I1.hok.fresh (Nat.le_refl _))
/-- a range object just made, walked -/
theorem range_it {pins : List (Addr × Obj)} {σ : St} {H : Hp} {s : Shared} {R : It → Hp → Prop} {E : Value → Shared → Prop} {lo hi : Int} {t u v : Tok} {tk : Nat} (I : Inv X pins σ H s) (h1 : -(2 ^ 62) ≤ lo) (h2 : lo < 2 ^ 62) (h3 : -(2 ^ 62) ≤ hi) (h4 : hi < 2 ^ 62)
    (q : R (Itr lo (hi - lo).toNat) H) : wpAny (model X.prog X.w) X.A (pyIter (.ref s.heap.objs.size)) (PIE X pins σ tg R) E { s with heap := s.heap.push { cls := .type "range", data := .fields #[.int lo t, .int hi u, .int 1 v] }, toks := tk } := by
  refine wpAny_pyIter_range (IsRange.new ..) (small_one h1 h2 h3 h4) ?_
  have I1 : Inv X pins σ H { s with heap := s.heap.push { cls := .type "range", data := .fields #[.int lo t, .int hi u, .int 1 v] }, toks := tk } := I.kept fun b o e => Heap.get?_push_of_some _ e
  refine ⟨(s.heap.push { cls := .type "range", data := .fields #[.int lo t, .int hi u, .int 1 v] }).objs.size, [(s.heap.push { cls := .type "range", data := .fields #[.int lo t, .int hi u, .int 1 v] }).objs.size], _, _, H, rfl,
    I1.kept (t' := tk) fun b o e => Heap.get?_push_of_some _ e, turn_range _ lo (hi - lo).toNat, ?_, fun b hb => ?_, q⟩
  · have e1 : lo + ((0 : Nat) : Int) * 1 = lo := by simp
    have e2 : (((hi - lo).toNat : Nat) : Int) - ((0 : Nat) : Int) = Builtin.Range.rangeSize lo hi 1 := by rw [rangeSize_one]; split <;> omega
    show IsRangeIter _ _ (lo + ((0 : Nat) : Int) * 1) ((((hi - lo).toNat : Nat) : Int) - ((0 : Nat) : Int)) 1
    rw [e1, e2]
    exact Heap.get?_push_size _ rfl
  · have e : b = (s.heap.push { cls := .type "range", data := .fields #[.int lo t, .int hi u, .int 1 v] }).objs.size := by simpa using hb
    subst e
    exact I1.fpOk (Nat.le_refl _) (I1.hok.fresh (Nat.le_refl _))
def iRng1 (ta : TA) : TI := fun σ H R => ta σ H fun vs H1 => ∃ j : Int, vs = [.int j] ∧ -(2 ^ 62) ≤ j ∧ j < 2 ^ 62 ∧ R (Itr 0 j.toNat) H1
theorem pi_range1 {a : Expr} {ta : TA} {p pos : Pos} (hg : Gl X "range") (hm : X.mg "range" = none) (ha : PA X [a] ta) (hs : starEach [a] X.env = [(false, eval a X.env)] := by rfl) : PI X tg (.Call (.Name "range" p) [a] [] pos) (iRng1 ta) := by
  intro pins s σ H R I h
  refine Call_ (ld_blt I hg hm boot_range (PyProof.Rows.callWith_type1 (thn (ha pos pins s σ H _ I h) fun us s1 ⟨vs, H1, I1, r1, q1⟩ => ?_) hs rfl))
  obtain ⟨j, e, q1, q2, q⟩ := q1
  subst e
  cases r1 with
  | cons r rr =>
    cases rr
    obtain ⟨t, rfl⟩ := r
    exact call_range_1 (range_it I1 (by omega) (by omega) q1 q2 (by simpa using q))

/-! ### for -/
/-- W: the invariant by the turn and a measure; N: what the body is to reach -/
def tFor (wi : TI) (g : TG) (tb : TS) : TS := fun D σ H => wi σ H fun J H1 => ∃ W : Nat → Nat → St → Hp → Prop, (∃ m, W 0 m σ H1) ∧ ∀ i m σ H, W i m σ H →
  (J.stop i H ∧ D.nx σ H) ∨ (J.go i H ∧ ∃ N : St → Hp → Prop, (∀ σ' H', N σ' H' → ∃ m', m' < m ∧ W (i + 1) m' σ' H') ∧ ∀ x H', J.yld i H x H' → g x σ H' fun σ2 H2 => tb { D with nx := N, ct := N, bk := D.nx } σ2 H2)
/-- the records at fp as they stand -/
def pinsAt (fp : List Addr) (h : Heap) : List (Addr × Obj) := fp.filterMap fun b => (h.get? b).map fun o => (b, o)
theorem mem_pinsAt {fp : List Addr} {h : Heap} {b : Addr} {o : Obj} (hb : b ∈ fp) (e : h.get? b = some o) : (b, o) ∈ pinsAt fp h := List.mem_filterMap.mpr ⟨b, hb, by rw [e]; rfl⟩
theorem of_pinsAt {fp : List Addr} {h : Heap} {p : Addr × Obj} (hp : p ∈ pinsAt fp h) : p.1 ∈ fp ∧ h.get? p.1 = some p.2 := by
  obtain ⟨b, hb, e⟩ := List.mem_filterMap.mp hp
  cases q : h.get? b with
  | none => rw [q] at e; cases e
  | some o =>
    rw [q] at e
    have e' : (b, o) = p := Option.some.inj e
    subst e'
    exact ⟨hb, q⟩
theorem Inv.pinned {pins : List (Addr × Obj)} {σ : St} {H : Hp} {s : Shared} {fp : List Addr} (I : Inv X pins σ H s) (hf : ∀ b ∈ fp, FpOk X pins H b) (ho : ∀ b ∈ fp, ∃ o, s.heap.get? b = some o ∧ ∀ v, o.data ≠ .cell v) : Inv X (pins ++ pinsAt fp s.heap) σ H s :=
  I.pins_of fun p hp => (List.mem_append.mp hp).elim (fun z => I.pin p (List.mem_append_right _ z)) fun z => by
    obtain ⟨hb, e⟩ := of_pinsAt z
    obtain ⟨f0, f1, f2, _⟩ := hf p.1 hb
    obtain ⟨o, e', d⟩ := ho p.1 hb
    rw [e] at e'; cases e'
    exact ⟨e, f0, f1, f2, d⟩
theorem Inv.unpinned {pins pl : List (Addr × Obj)} {σ : St} {H : Hp} {s : Shared} (I : Inv X (pins ++ pl) σ H s) : Inv X pins σ H s := I.pins_of fun p hp => I.pin p (List.mem_append_right _ (List.mem_append_left _ hp))
theorem ps_for {iter : Expr} {body : List Stmt} {wi : TI} {g : TG} {tb : TS} {pos : Pos} (hp : PassesOwn (model X.prog X.w) X.A X.env X.xe) (hc : X.calm = true) (hi : PI X tg iter wi) (hg : PG X tg g) (hb : PSs X body tb)
    (hs : ∀ x, foldedSetIterable iter X.env x = pure x := by intro _; rfl) : PS X (.For tg iter body [] pos) (tFor wi g tb) := by
  intro pins s σ H D I h
  refine wpAny_For (thn (hi pins s σ H _ I h) fun v s1 h1 => thn h1 fun itv s2 h2 => ?_) hs
  obtain ⟨it, fp, tn, J, H2, e, I2, T, st2, f2, W, ⟨m0, w0⟩, turn⟩ := h2
  subst e
  -- what stays true of the iterator's objects through the loop
  have stat : ∀ {H' : Hp}, (∀ b ∈ fp, H' b = none) → ∀ b ∈ fp, FpOk X pins H' b := fun hn b hb => ⟨hn b hb, (f2 b hb).2⟩
  refine codeAny_forLoop_any (fun n s' => ∃ i σ' H', Inv X pins σ' H' s' ∧ tn i s'.heap ∧ (∀ b ∈ fp, H' b = none) ∧ W i n σ' H') ?_ m0 ⟨0, σ, H2, I2, st2, fun b hb => (f2 b hb).1, w0⟩
  rintro n s3 ⟨i, σ3, H3, I3, st3, fr3, w3⟩
  rcases turn i n σ3 H3 w3 with ⟨stop, qn⟩ | ⟨go, N, hN, step⟩
  · refine wpAny_passesOwn hp (thn (T.done X rfl rfl rfl hc i pins s3 σ3 H3 X.xe I3 (stat fr3) st3 stop) fun r s4 ⟨hr, I4⟩ => ?_)
    subst hr
    exact wpAny_execs_nil ⟨σ3, H3, I4, qn⟩
  · refine wpAny_passesOwn hp (thn (T.item X rfl rfl rfl hc i pins s3 σ3 H3 X.xe I3 (stat fr3) st3 go) fun r s4 ⟨u, hr, h4⟩ => ?_)
    subst hr
    refine wpAny_passesOwn hp (thn h4 fun _ s5 ⟨x, H5, I5, r5, y5, st5, fr5⟩ => ?_)
    have I5' := I5.pinned (stat fr5) (T.obj _ _ st5)
    refine wpAny_passesOwn hp (thn (hg _ s5 σ3 H5 x u _ I5' r5 (step x H5 y5)) fun _ s6 ⟨σ6, H6, I6, q6⟩ => ?_)
    refine wpAny_passesOwn hp (thn (hb _ s6 σ6 H6 _ I6 q6) fun f s7 q7 => ?_)
    have again : ∀ {σ7 : St} {H7 : Hp}, Inv X (pins ++ pinsAt fp s5.heap) σ7 H7 s7 → N σ7 H7 → ∃ m, m < n ∧ ∃ i σ' H', Inv X pins σ' H' s7 ∧ tn i s7.heap ∧ (∀ b ∈ fp, H' b = none) ∧ W i m σ' H' := fun {σ7 H7} I7 n7 => by
      obtain ⟨m', hm, w7⟩ := hN σ7 H7 n7
      refine ⟨m', hm, i + 1, σ7, H7, I7.unpinned, T.keep _ _ _ st5 fun b hb o e => (I7.pin (b, o) (List.mem_append_right _ (List.mem_append_right _ (mem_pinsAt hb e)))).1, fun b hb => ?_, w7⟩
      obtain ⟨o, e, d⟩ := T.obj _ _ st5 b hb
      exact (I7.pin (b, o) (List.mem_append_right _ (List.mem_append_right _ (mem_pinsAt hb e)))).2.1
    cases f with
    | next => obtain ⟨σ7, H7, I7, n7⟩ := q7; exact again I7 n7
    | cont => obtain ⟨σ7, H7, I7, n7⟩ := q7; exact again I7 n7
    | brk => obtain ⟨σ7, H7, I7, q7⟩ := q7; exact ⟨σ7, H7, I7.unpinned, q7⟩
    | ret v => obtain ⟨x7, σ7, H7, I7, r7, q7⟩ := q7; exact ⟨x7, σ7, H7, I7.unpinned, r7, q7⟩
end

/-! ### the forms one uses -/
/-- over a list that the body leaves as it is -/
theorem for_list {K : PySem.W.Frag} {a : Addr} {xs : List V} {g : TG} {tb : TS} {D : Ends} {σ : St} {H : Hp} (Pv : Nat → St → Hp → Prop) (h0 : Pv 0 σ H) (hl : ∀ i σ H, i ≤ xs.length → Pv i σ H → SqL K H a xs)
    (hs : ∀ i x σ H, xs[i]? = some x → Pv i σ H → g x σ H fun σ2 H2 => tb { D with nx := Pv (i + 1), ct := Pv (i + 1), bk := D.nx } σ2 H2) (hd : ∀ σ H, Pv xs.length σ H → D.nx σ H) :
    ∃ W : Nat → Nat → St → Hp → Prop, (∃ m, W 0 m σ H) ∧ ∀ i m σ H, W i m σ H →
      ((Itl K a).stop i H ∧ D.nx σ H) ∨ ((Itl K a).go i H ∧ ∃ N : St → Hp → Prop, (∀ σ' H', N σ' H' → ∃ m', m' < m ∧ W (i + 1) m' σ' H') ∧ ∀ x H', (Itl K a).yld i H x H' → g x σ H' fun σ2 H2 => tb { D with nx := N, ct := N, bk := D.nx } σ2 H2) := by
  refine ⟨fun i m σ H => m = xs.length - i ∧ i ≤ xs.length ∧ Pv i σ H, ⟨xs.length, by simp, Nat.zero_le _, h0⟩, ?_⟩
  rintro i m σ H ⟨rfl, hi, p⟩
  have q := hl i σ H hi p
  by_cases hlt : i < xs.length
  · refine .inr ⟨⟨xs, xs[i], q, by simp [hlt]⟩, Pv (i + 1), fun σ' H' p' => ⟨xs.length - (i + 1), by omega, rfl, hlt, p'⟩, fun x H' y => ?_⟩
    obtain ⟨e, y⟩ := y
    subst e
    exact hs i x σ _ (y xs q) p
  · have e : i = xs.length := by omega
    subst e
    exact .inl ⟨⟨xs, q, Nat.le_refl _⟩, hd σ H p⟩
theorem for_tup {K : PySem.W.Frag} {a : Addr} {xs : List V} {g : TG} {tb : TS} {D : Ends} {σ : St} {H : Hp} (Pv : Nat → St → Hp → Prop) (h0 : Pv 0 σ H) (hl : ∀ i σ H, i ≤ xs.length → Pv i σ H → SqT K H a xs)
    (hs : ∀ i x σ H, xs[i]? = some x → Pv i σ H → g x σ H fun σ2 H2 => tb { D with nx := Pv (i + 1), ct := Pv (i + 1), bk := D.nx } σ2 H2) (hd : ∀ σ H, Pv xs.length σ H → D.nx σ H) :
    ∃ W : Nat → Nat → St → Hp → Prop, (∃ m, W 0 m σ H) ∧ ∀ i m σ H, W i m σ H →
      ((Itt K a).stop i H ∧ D.nx σ H) ∨ ((Itt K a).go i H ∧ ∃ N : St → Hp → Prop, (∀ σ' H', N σ' H' → ∃ m', m' < m ∧ W (i + 1) m' σ' H') ∧ ∀ x H', (Itt K a).yld i H x H' → g x σ H' fun σ2 H2 => tb { D with nx := N, ct := N, bk := D.nx } σ2 H2) := by
  refine ⟨fun i m σ H => m = xs.length - i ∧ i ≤ xs.length ∧ Pv i σ H, ⟨xs.length, by simp, Nat.zero_le _, h0⟩, ?_⟩
  rintro i m σ H ⟨rfl, hi, p⟩
  have q := hl i σ H hi p
  by_cases hlt : i < xs.length
  · refine .inr ⟨⟨xs, xs[i], q, by simp [hlt]⟩, Pv (i + 1), fun σ' H' p' => ⟨xs.length - (i + 1), by omega, rfl, hlt, p'⟩, fun x H' y => ?_⟩
    obtain ⟨e, y⟩ := y
    subst e
    exact hs i x σ _ (y xs q) p
  · have e : i = xs.length := by omega
    subst e
    exact .inl ⟨⟨xs, q, Nat.le_refl _⟩, hd σ H p⟩
theorem for_range {lo : Int} {n : Nat} {g : TG} {tb : TS} {D : Ends} {σ : St} {H : Hp} (Pv : Nat → St → Hp → Prop) (h0 : Pv 0 σ H)
    (hs : ∀ i σ H, i < n → Pv i σ H → g (.int (lo + i)) σ H fun σ2 H2 => tb { D with nx := Pv (i + 1), ct := Pv (i + 1), bk := D.nx } σ2 H2) (hd : ∀ σ H, Pv n σ H → D.nx σ H) :
    ∃ W : Nat → Nat → St → Hp → Prop, (∃ m, W 0 m σ H) ∧ ∀ i m σ H, W i m σ H →
      ((Itr lo n).stop i H ∧ D.nx σ H) ∨ ((Itr lo n).go i H ∧ ∃ N : St → Hp → Prop, (∀ σ' H', N σ' H' → ∃ m', m' < m ∧ W (i + 1) m' σ' H') ∧ ∀ x H', (Itr lo n).yld i H x H' → g x σ H' fun σ2 H2 => tb { D with nx := N, ct := N, bk := D.nx } σ2 H2) := by
  refine ⟨fun i m σ H => m = n - i ∧ i ≤ n ∧ Pv i σ H, ⟨n, by simp, Nat.zero_le _, h0⟩, ?_⟩
  rintro i m σ H ⟨rfl, hi, p⟩
  by_cases hlt : i < n
  · refine .inr ⟨hlt, Pv (i + 1), fun σ' H' p' => ⟨n - (i + 1), by omega, rfl, hlt, p'⟩, fun x H' y => ?_⟩
    obtain ⟨e, y⟩ := y
    subst e y
    exact hs i σ _ hlt p
  · have e : i = n := by omega
    subst e
    exact .inl ⟨Nat.le_refl _, hd σ H p⟩
end L2

namespace L2
open PySem PySem.Spec PyProof.Rows

abbrev R2 := V → V → Hp → VK → Prop
/-- a two-place operation on values: f is binaryOp op, inplaceOp op or compareOp op -/
def OpR (X : Cx) (f : Value → Value → Sem Value) (r : R2) : Prop :=
  ∀ (pins : List (Addr × Obj)) (s : Shared) (σ : St) (H : Hp) (x y : V) (v u : Value) (Q : VK), Inv X pins σ H s → RelV x v → RelV y u → r x y H Q →
    wpAny (model X.prog X.w) X.A (f v u) (EP X pins σ Q) X.xe s
/-- a one-place operation -/
def UnR (X : Cx) (f : Value → Sem Value) (r : V → Hp → VK → Prop) : Prop :=
  ∀ (pins : List (Addr × Obj)) (s : Shared) (σ : St) (H : Hp) (x : V) (v : Value) (Q : VK), Inv X pins σ H s → RelV x v → r x H Q →
    wpAny (model X.prog X.w) X.A (f v) (EP X pins σ Q) X.xe s
/-- a call of a value that is known (a builtin, a type) with values -/
def CallR (X : Cx) (f : Value) (r : List V → Hp → VK → Prop) : Prop :=
  ∀ (pins : List (Addr × Obj)) (s : Shared) (σ : St) (H : Hp) (xs : List V) (us : List Value) (Q : VK), Inv X pins σ H s → Vals xs us → r xs H Q →
    wpAny (model X.prog X.w) X.A (call f us) (EP X pins σ Q) X.xe s
/-- a value's truth -/
def TruR (X : Cx) (r : V → Hp → (Bool → Hp → Prop) → Prop) : Prop :=
  ∀ (pins : List (Addr × Obj)) (s : Shared) (σ : St) (H : Hp) (x : V) (v : Value) (Q : Bool → Hp → Prop), Inv X pins σ H s → RelV x v → r x H Q →
    wpAny (model X.prog X.w) X.A (truthy v) (TP X pins σ Q) X.xe s

def tOp (r : R2) (ta tb : TE) : TE := fun σ H Q => ta σ H fun x H1 => tb σ H1 fun y H2 => r x y H2 Q
def tUn (r : V → Hp → VK → Prop) (ta : TE) : TE := fun σ H Q => ta σ H fun x H1 => r x H1 Q
/-- ints in, under C, and a value out -/
def rI (C : Int → Int → Prop) (g : Int → Int → V) : R2 := fun x y H Q => ∃ i j, x = .int i ∧ y = .int j ∧ C i j ∧ Q (g i j) H
def rI0 (g : Int → Int → V) : R2 := fun x y H Q => ∃ i j, x = .int i ∧ y = .int j ∧ Q (g i j) H
def rU (g : Int → V) : V → Hp → VK → Prop := fun x H Q => ∃ i, x = .int i ∧ Q (g i) H

section
variable {X : Cx} {a b c : Expr} {ta tb tc : TE} {pos : Pos}

theorem binT (ha : PE X a ta) (hb : PE X b tb) {pins : List (Addr × Obj)} {s : Shared} {σ : St} {H : Hp} {R : V → V → Hp → Prop} (I : Inv X pins σ H s)
    (h : ta σ H fun x H1 => tb σ H1 fun y H2 => R x y H2) {Q : Value → Shared → Prop} {f : Value → Value → Sem Value}
    (hf : ∀ v u s2 x y H2, Inv X pins σ H2 s2 → RelV x v → RelV y u → R x y H2 → wpAny (model X.prog X.w) X.A (f v u) Q X.xe s2) :
    wpAny (model X.prog X.w) X.A (eval a X.env) (fun v s₁ => wpAny (model X.prog X.w) X.A (eval b X.env) (fun u s₂ => wpAny (model X.prog X.w) X.A (f v u) Q X.xe s₂) X.xe s₁) X.xe s := by
  refine thn (ha pins s σ H _ I h) fun v s1 ⟨x, H1, I1, r1, q1⟩ => ?_
  refine thn (hb pins s1 σ H1 _ I1 q1) fun u s2 ⟨y, H2, I2, r2, q2⟩ => ?_
  exact hf v u s2 x y H2 I2 r1 r2 q2

theorem pe_op {op : Operator} {r : R2} (ho : OpR X (binaryOp op) r) (ha : PE X a ta) (hb : PE X b tb) : PE X (.BinOp a op b pos) (tOp r ta tb) := by
  intro pins s σ H Q I h
  exact wpAny_BinOp (binT ha hb I h fun v u s2 x y H2 I2 rx ry q => ho pins s2 σ H2 x y v u Q I2 rx ry q)
theorem pe_un {op : UnaryOp} {r : V → Hp → VK → Prop} (ho : UnR X (unaryOp op) r) (ha : PE X a ta) : PE X (.UnaryOp op a pos) (tUn r ta) := by
  intro pins s σ H Q I h
  exact UnaryOp_ (thn (ha pins s σ H _ I h) fun v s1 ⟨x, H1, I1, r1, q1⟩ => ho pins s1 σ H1 x v Q I1 r1 q1)

/-! ### ints -/
theorem opI {f : Value → Value → Sem Value} {C : Int → Int → Prop} {g : Int → Int → Int}
    (rule : ∀ (i j : Int) (t u : Tok) (s : Shared) (Q : Value → Shared → Prop) (E : Value → Shared → Prop), C i j → Q (.int (g i j) s.toks) { s with toks := s.toks + 1 } → wpAny (model X.prog X.w) X.A (f (.int i t) (.int j u)) Q E s) :
    OpR X f (rI C fun i j => .int (g i j)) := by
  intro pins s σ H x y v u Q I rx ry h
  obtain ⟨i, j, rfl, rfl, hc, q⟩ := h
  obtain ⟨t, rfl⟩ := rx
  obtain ⟨t', rfl⟩ := ry
  exact rule i j t t' s _ _ hc ⟨.int (g i j), H, I.tok _, ⟨_, rfl⟩, q⟩
theorem opI0 {f : Value → Value → Sem Value} {g : Int → Int → Int}
    (rule : ∀ (i j : Int) (t u : Tok) (s : Shared) (Q : Value → Shared → Prop) (E : Value → Shared → Prop), Q (.int (g i j) s.toks) { s with toks := s.toks + 1 } → wpAny (model X.prog X.w) X.A (f (.int i t) (.int j u)) Q E s) :
    OpR X f (rI0 fun i j => .int (g i j)) := by
  intro pins s σ H x y v u Q I rx ry h
  obtain ⟨i, j, rfl, rfl, q⟩ := h
  obtain ⟨t, rfl⟩ := rx
  obtain ⟨t', rfl⟩ := ry
  exact rule i j t t' s _ _ ⟨.int (g i j), H, I.tok _, ⟨_, rfl⟩, q⟩
theorem opB0 {f : Value → Value → Sem Value} {g : Int → Int → Bool}
    (rule : ∀ (i j : Int) (t u : Tok) (s : Shared) (Q : Value → Shared → Prop) (E : Value → Shared → Prop), Q (.bool (g i j)) s → wpAny (model X.prog X.w) X.A (f (.int i t) (.int j u)) Q E s) :
    OpR X f (rI0 fun i j => .bl (g i j)) := by
  intro pins s σ H x y v u Q I rx ry h
  obtain ⟨i, j, rfl, rfl, q⟩ := h
  obtain ⟨t, rfl⟩ := rx
  obtain ⟨t', rfl⟩ := ry
  exact rule i j t t' s _ _ ⟨.bl (g i j), H, I, rfl, q⟩

def CDiv (i j : Int) : Prop := 0 < j ∧ j < 1073741824
def CPow (i j : Int) : Prop := 0 ≤ j ∧ j ≤ 1000000 ∧ i.natAbs < 2 ^ 64
def CMul (i j : Int) : Prop := (-(2 ^ 64) < i ∧ i < 2 ^ 64) ∨ (-(2 ^ 64) < j ∧ j < 2 ^ 64)
theorem CMul.ok {i j : Int} (h : CMul i j) : IntMulOk i j := by
  rcases h with ⟨h1, h2⟩ | ⟨h1, h2⟩
  · exact .of_left (intBits_le_64 h1 h2)
  · exact .of_right (intBits_le_64 h1 h2)

theorem op_add : OpR X (binaryOp .Add) (rI0 fun i j => .int (i + j)) := opI0 fun _ _ _ _ _ _ _ q => add_int q
theorem op_sub : OpR X (binaryOp .Sub) (rI0 fun i j => .int (i - j)) := opI0 fun _ _ _ _ _ _ _ q => sub_int q
theorem op_mul : OpR X (binaryOp .Mult) (rI CMul fun i j => .int (i * j)) := opI fun _ _ _ _ _ _ _ hc q => mul_int q hc.ok
/-- // by a positive divisor -/
theorem op_fdiv : OpR X (binaryOp .FloorDiv) (rI CDiv fun i j => .int (i / j)) := opI fun i j _ _ _ _ _ hc q => by
  have h1 : (0 : Int) < j := hc.1
  have h2 : j < 1073741824 := hc.2
  exact floordiv_int (by omega) (by rw [Int.fdiv_eq_ediv_of_nonneg i (by omega)]; exact q) (.inl (PyProof.noPylong_small (by omega)))
/-- % by a positive divisor of any size -/
theorem op_mod : OpR X (binaryOp .Mod) (rI (fun _ j => 0 < j) fun i j => .int (i % j)) := opI fun i j _ _ _ _ _ hc q => by
  have h1 : (0 : Int) < j := hc
  exact mod_int' (by omega) (by rw [Int.fmod_eq_emod_of_nonneg i (by omega)]; exact q)
theorem op_pow : OpR X (binaryOp .Pow) (rI CPow fun i j => .int (i ^ j.toNat)) := opI fun _ _ _ _ _ _ _ hc q => pow_int_small hc.1 hc.2.1 hc.2.2 q


theorem unI {f : Value → Sem Value} {g : Int → Int}
    (rule : ∀ (i : Int) (t : Tok) (s : Shared) (Q : Value → Shared → Prop) (E : Value → Shared → Prop), Q (.int (g i) s.toks) { s with toks := s.toks + 1 } → wpAny (model X.prog X.w) X.A (f (.int i t)) Q E s) :
    UnR X f (rU fun i => .int (g i)) := by
  intro pins s σ H x v Q I rx h
  obtain ⟨i, rfl, q⟩ := h
  obtain ⟨t, rfl⟩ := rx
  exact rule i t s _ _ ⟨.int (g i), H, I.tok _, ⟨_, rfl⟩, q⟩
theorem un_neg : UnR X (unaryOp .USub) (rU fun i => .int (-i)) := unI fun _ _ _ _ _ q => neg_int q

/-! ### bools among ints: n += (a < b) -/
end

/-! ### comparisons -/
/-- the scalars that == tells apart as data does -/
def scal : V → V → Bool
  | .non, .non => true | .non, .int _ => true | .int _, .non => true | .non, .bl _ => true | .bl _, .non => true | .non, .str _ => true | .str _, .non => true
  | .int _, .int _ => true | .bl _, .bl _ => true | .str _, .str _ => true | .byt _, .byt _ => true
  | .int _, .str _ => true | .str _, .int _ => true | .bl _, .str _ => true | .str _, .bl _ => true
  | _, _ => false
def rEq : R2 := fun x y H Q => scal x y = true ∧ Q (.bl (decide (x = y))) H
def rNe : R2 := fun x y H Q => scal x y = true ∧ Q (.bl (!decide (x = y))) H

theorem dec_int {i j : Int} : decide (V.int i = V.int j) = (i == j) := by
  rw [Bool.eq_iff_iff]
  simp
theorem dec_bl {i j : Bool} : decide (V.bl i = V.bl j) = (i == j) := by
  rw [Bool.eq_iff_iff]
  simp
theorem dec_str {i j : Str} : decide (V.str i = V.str j) = (i == j) := by
  rw [Bool.eq_iff_iff]
  simp
theorem dec_byt {i j : Array UInt8} : decide (V.byt i = V.byt j) = (i.toList == j.toList) := by
  rw [Bool.eq_iff_iff]
  cases i
  cases j
  simp

section
variable {X : Cx} {a b c : Expr} {ta tb tc : TE} {pos : Pos}
theorem fin_bl {pins : List (Addr × Obj)} {σ : St} {H : Hp} {s : Shared} {Q : VK} {k k' : Bool} (I : Inv X pins σ H s) (q : Q (.bl k) H) (e : k = k') : EP X pins σ Q (.bool k') s := by
  subst e
  exact ⟨.bl k, H, I, rfl, q⟩
theorem op_eq : OpR X (compareOp .Eq) rEq := by
  intro pins s σ H x y v u Q I rx ry h
  obtain ⟨hs, q⟩ := h
  cases x with
  | non =>
    cases rx
    cases y with
    | non => cases ry; exact PySem.EqNone.eq_none_none (fin_bl I q (by simp))
    | bl j => cases ry; exact PySem.EqNone.eq_none_bool (fin_bl I q (by simp))
    | int j => obtain ⟨t', rfl⟩ := ry; exact PySem.EqNone.eq_none_int (fin_bl I q (by simp))
    | str j => obtain ⟨t', rfl⟩ := ry; exact PySem.EqNone.eq_none_str (fin_bl I q (by simp))
    | _ => exact absurd (show false = true from hs) Bool.false_ne_true
  | bl i =>
    cases rx
    cases y with
    | non => cases ry; exact PySem.EqNone.eq_bool_none (fin_bl I q (by simp))
    | bl j => cases ry; exact eq_bool (fin_bl I q dec_bl)
    | str j => obtain ⟨t', rfl⟩ := ry; exact PySem.EqMixed.eq_bool_str (fin_bl I q (by simp))
    | _ => exact absurd (show false = true from hs) Bool.false_ne_true
  | int i =>
    obtain ⟨t, rfl⟩ := rx
    cases y with
    | non => cases ry; exact PySem.EqNone.eq_int_none (fin_bl I q (by simp))
    | int j => obtain ⟨t', rfl⟩ := ry; exact eq_int (fin_bl I q dec_int)
    | str j => obtain ⟨t', rfl⟩ := ry; exact PySem.EqMixed.eq_int_str (fin_bl I q (by simp))
    | _ => exact absurd (show false = true from hs) Bool.false_ne_true
  | str i =>
    obtain ⟨t, rfl⟩ := rx
    cases y with
    | non => cases ry; exact PySem.EqNone.eq_str_none (fin_bl I q (by simp))
    | bl j => cases ry; exact PySem.EqMixed.eq_str_bool (fin_bl I q (by simp))
    | int j => obtain ⟨t', rfl⟩ := ry; exact PySem.EqMixed.eq_str_int (fin_bl I q (by simp))
    | str j => obtain ⟨t', rfl⟩ := ry; exact eq_str (fin_bl I q dec_str)
    | _ => exact absurd (show false = true from hs) Bool.false_ne_true
  | byt i =>
    obtain ⟨t, rfl⟩ := rx
    cases y with
    | byt j => obtain ⟨t', rfl⟩ := ry; exact PySem.W.eq_bytes (fin_bl I q dec_byt)
    | _ => exact absurd (show false = true from hs) Bool.false_ne_true
  | _ => cases y <;> exact absurd (show false = true from hs) Bool.false_ne_true
theorem op_ne : OpR X (compareOp .NotEq) rNe := by
  intro pins s σ H x y v u Q I rx ry h
  obtain ⟨hs, q⟩ := h
  cases x with
  | non =>
    cases rx
    cases y with
    | non => cases ry; exact PySem.EqNone.ne_none_none (fin_bl I q (by simp))
    | bl j => cases ry; exact PySem.EqNone.ne_none_bool (fin_bl I q (by simp))
    | int j => obtain ⟨t', rfl⟩ := ry; exact PySem.EqNone.ne_none_int (fin_bl I q (by simp))
    | str j => obtain ⟨t', rfl⟩ := ry; exact PySem.EqNone.ne_none_str (fin_bl I q (by simp))
    | _ => exact absurd (show false = true from hs) Bool.false_ne_true
  | bl i =>
    cases rx
    cases y with
    | non => cases ry; exact PySem.EqNone.ne_bool_none (fin_bl I q (by simp))
    | bl j => cases ry; exact ne_bool (fin_bl I q (congrArg not dec_bl))
    | str j => obtain ⟨t', rfl⟩ := ry; exact PySem.EqMixed.ne_bool_str (fin_bl I q (by simp))
    | _ => exact absurd (show false = true from hs) Bool.false_ne_true
  | int i =>
    obtain ⟨t, rfl⟩ := rx
    cases y with
    | non => cases ry; exact PySem.EqNone.ne_int_none (fin_bl I q (by simp))
    | int j => obtain ⟨t', rfl⟩ := ry; exact ne_int (fin_bl I q (congrArg not dec_int))
    | str j => obtain ⟨t', rfl⟩ := ry; exact PySem.EqMixed.ne_int_str (fin_bl I q (by simp))
    | _ => exact absurd (show false = true from hs) Bool.false_ne_true
  | str i =>
    obtain ⟨t, rfl⟩ := rx
    cases y with
    | non => cases ry; exact PySem.EqNone.ne_str_none (fin_bl I q (by simp))
    | bl j => cases ry; exact PySem.EqMixed.ne_str_bool (fin_bl I q (by simp))
    | int j => obtain ⟨t', rfl⟩ := ry; exact PySem.EqMixed.ne_str_int (fin_bl I q (by simp))
    | str j => obtain ⟨t', rfl⟩ := ry; exact ne_str (fin_bl I q (congrArg not dec_str))
    | _ => exact absurd (show false = true from hs) Bool.false_ne_true
  | byt i =>
    obtain ⟨t, rfl⟩ := rx
    cases y with
    | byt j => obtain ⟨t', rfl⟩ := ry; exact PySem.W.ne_bytes (fin_bl I q (congrArg not dec_byt))
    | _ => exact absurd (show false = true from hs) Bool.false_ne_true
  | _ => cases y <;> exact absurd (show false = true from hs) Bool.false_ne_true

theorem op_lt : OpR X (compareOp .Lt) (rI0 fun i j => .bl (decide (i < j))) := opB0 fun _ _ _ _ _ _ _ q => lt_int q
theorem op_le : OpR X (compareOp .LtE) (rI0 fun i j => .bl (decide (i ≤ j))) := opB0 fun _ _ _ _ _ _ _ q => le_int q
theorem op_gt : OpR X (compareOp .Gt) (rI0 fun i j => .bl (decide (j < i))) := opB0 fun _ _ _ _ _ _ _ q => gt_int q
/-- the one string within the other -/
theorem op_in_str : OpR X (compareOp .In) (fun x y H Q => ∃ i j, x = .str i ∧ y = .str j ∧ Q (.bl (!(Builtin.Str.occurrences j i 0 j.length 1).isEmpty)) H) := by
  intro pins s σ H x y v u Q I rx ry h
  obtain ⟨i, j, rfl, rfl, q⟩ := h
  obtain ⟨t, rfl⟩ := rx
  obtain ⟨t', rfl⟩ := ry
  exact in_str (fin_bl I q rfl)




theorem nomark (b : Expr) {op : CmpOp} (h : op ≠ .In := by decide) (h2 : op ≠ .NotIn := by decide) : behindInMarks op b = false := by
  have e1 : (op == CmpOp.In) = false := by cases op <;> first | rfl | exact absurd rfl h
  have e2 : (op == CmpOp.NotIn) = false := by cases op <;> first | rfl | exact absurd rfl h2
  cases b <;> simp [behindInMarks, e1, e2]
/-- a comparison as a value; hm: nomark b, or (for in, not in) by with_unfolding_all rfl -/
theorem pe_cmpR {op : CmpOp} {r : R2} (ho : OpR X (compareOp op) r) (ha : PE X a ta) (hb : PE X b tb) (hm : behindInMarks op b = false) : PE X (.Compare a [op] [b] pos) (tOp r ta tb) := by
  intro pins s σ H Q I h
  exact wpAny_Compare1 (binT ha hb I h fun v u s2 x y H2 I2 rx ry q => ho pins s2 σ H2 x y v u Q I2 rx ry q) hm
/-- a reading of a value as a test -/
def tTest (t : TE) : TT := fun σ H Q => t σ H fun x H' => ∃ k, x = .bl k ∧ Q k H'
theorem pt_cmpR {op : CmpOp} {r : R2} (ho : OpR X (compareOp op) r) (ha : PE X a ta) (hb : PE X b tb) (hm : behindInMarks op b = false) : PT X (.Compare a [op] [b] pos) (tTest (tOp r ta tb)) := by
  intro pins s σ H Q I h
  refine wpAny_isTrue_Compare1 (thn (ha pins s σ H _ I h) fun v s1 ⟨x, H1, I1, r1, q1⟩ => thn (hb pins s1 σ H1 _ I1 q1) fun u s2 ⟨y, H2, I2, r2, q2⟩ =>
    thn (ho pins s2 σ H2 x y v u _ I2 r1 r2 q2) fun c s3 ⟨z, H3, I3, r3, k, e, q3⟩ => ?_) hm
  subst e
  cases r3
  exact wpAny_truthy_bool ⟨H3, I3, q3⟩
/-- a op1 b op2 c -/
def tChain (r r' : R2) (ta tb tc : TE) : TE := fun σ H Q => ta σ H fun x H1 => tb σ H1 fun y H2 => r x y H2 fun z H3 => ∃ k, z = .bl k ∧
  (if k = true then tc σ H3 fun w' H4 => r' y w' H4 Q else Q (.bl false) H3)
theorem pe_chain {op op' : CmpOp} {r r' : R2} (ho : OpR X (compareOp op) r) (ho' : OpR X (compareOp op') r') (ha : PE X a ta) (hb : PE X b tb) (hc : PE X c tc)
    (hm : lastMarks [op, op'] [b, c] = false := by with_unfolding_all rfl) : PE X (.Compare a [op, op'] [b, c] pos) (tChain r r' ta tb tc) := by
  intro pins s σ H Q I h
  refine Compare_chain (thn (ha pins s σ H _ I h) fun v s1 ⟨x, H1, I1, r1, q1⟩ => chain_link (thn (hb pins s1 σ H1 _ I1 q1) fun u s2 ⟨y, H2, I2, r2, q2⟩ =>
    thn (ho pins s2 σ H2 x y v u _ I2 r1 r2 q2) fun d s3 ⟨z, H3, I3, r3, k, e, q3⟩ => ?_)) hm
  subst e
  cases r3
  refine wpAny_truthy_bool ?_
  cases k with
  | false => exact ite_ff ⟨.bl false, H3, I3, rfl, q3⟩
  | true => exact ite_tt (chain_last (thn (hc pins s3 σ H3 _ I3 q3) fun w' s4 ⟨z', H4, I4, r4, q4⟩ => ho' pins s4 σ H4 y z' u w' Q I4 r2 r4 q4))

/-! ### truth -/
/-- a value's truth by the abstract heap -/
def TruV (K : PySem.W.Frag) (x : V) (H : Hp) (k : Bool) : Prop :=
  match x with
  | .non => k = false
  | .bl b => k = b
  | .int i => k = (i != 0)
  | .str y => y.length ≤ sizeLine ∧ k = ((y.length : Int) != 0)
  | .byt y => y.size ≤ sizeLine ∧ k = ((y.size : Int) != 0)
  | .ref p => (∃ xs, SqL K H p xs ∧ k = !xs.isEmpty) ∨ (∃ xs, SqT K H p xs ∧ k = !xs.isEmpty) ∨ ∃ kvs, H p = some (.dK kvs) ∧ k = !kvs.isEmpty
  | _ => False
theorem isEmpty_kv {κ : Type} {kvs : List (κ × V)} {vs : List (κ × Value)} (r : KV kvs vs) : (!vs.isEmpty) = !kvs.isEmpty := by
  cases r <;> rfl
theorem isEmpty_of {xs : List V} {its : List Value} (r : Vals xs its) : (!its.toArray.isEmpty) = !xs.isEmpty := by
  cases r <;> simp
theorem line63 : (sizeLine : Nat) < 2 ^ 63 := by rw [sizeLine_eq]; decide
theorem tru_ok : TruR X (fun x H Q => ∃ k, TruV X.K x H k ∧ Q k H) := by
  intro pins s σ H x v Q I rx h
  obtain ⟨k, e, q⟩ := h
  have hl := line63
  have hs : sizeLine = 16777216 := sizeLine_eq
  cases x with
  | non =>
    cases rx
    have e' : k = false := e
    subst e'
    exact truthy_none ⟨H, I, q⟩
  | bl b =>
    cases rx
    have e' : k = b := e
    subst e'
    exact wpAny_truthy_bool ⟨H, I, q⟩
  | int i =>
    obtain ⟨t, rfl⟩ := rx
    have e' : k = (i != 0) := e
    subst e'
    exact PySem.P.truthy_int ⟨H, I, q⟩
  | str y =>
    obtain ⟨t, rfl⟩ := rx
    obtain ⟨hy, e'⟩ : y.length ≤ sizeLine ∧ k = ((y.length : Int) != 0) := e
    subst e'
    exact PySem.P.truthy_str (by omega) ⟨H, I.tok _, q⟩
  | byt y =>
    obtain ⟨t, rfl⟩ := rx
    obtain ⟨hy, e'⟩ : y.size ≤ sizeLine ∧ k = ((y.size : Int) != 0) := e
    subst e'
    exact PySem.W.truthy_bytes (by omega) ⟨H, I.tok _, q⟩
  | ref p =>
    cases rx
    have e' : (∃ xs, SqL X.K H p xs ∧ k = !xs.isEmpty) ∨ (∃ xs, SqT X.K H p xs ∧ k = !xs.isEmpty) ∨ ∃ kvs, H p = some (.dK kvs) ∧ k = !kvs.isEmpty := e
    rcases e' with ⟨xs, hx, e'⟩ | ⟨xs, hx, e'⟩ | ⟨kvs, hx, e'⟩
    · subst e'
      obtain ⟨its, r, pl, hz⟩ := I.list hx
      have hlen := r.length
      exact wpAny_truthy_list pl.isList (by simp only [List.size_toArray]; omega) ⟨H, I.tok _, by rw [isEmpty_of r]; exact q⟩
    · subst e'
      obtain ⟨its, r, pl, hz⟩ := I.tuple hx
      have hlen := r.length
      exact truthy_tuple pl (by simp only [List.size_toArray]; omega) ⟨H, I.tok _, by rw [isEmpty_of r]; exact q⟩
    · subst e'
      obtain ⟨hz, hS, vs, r, m⟩ : kvs.length ≤ sizeLine ∧ (p == sysModules) = false ∧ ∃ vs, KV kvs vs ∧ s.heap.DictOf (mixKind X.prog X.w) p vs := I.hok p _ hx
      have hlen : kvs.length = vs.length := Paired.length r
      exact wpAny_truthy_dict hS m (by omega) ⟨H, I.tok _, by rw [isEmpty_kv r]; exact q⟩
  | _ => exact (show False from e).elim
/-- any expression whose test is its value's truth (a name, a call, a subscript, a field ..: he by fun _ => rfl) -/
theorem pt_truth (ha : PE X a ta) (he : ∀ whole, isTrue a X.env whole = (do let v ← whole; standAt a.pos; holding [v] (truthy v))) :
    PT X a (fun σ H Q => ta σ H fun x H' => ∃ k, TruV X.K x H' k ∧ Q k H') := by
  intro pins s σ H Q I h
  exact isTrue_plain (thn (ha pins s σ H _ I h) fun v s1 ⟨x, H1, I1, r1, q1⟩ => tru_ok pins s1 σ H1 x v Q I1 r1 q1) (he _)

/-! ### strs and bytes -/
theorem op_add_str : OpR X (binaryOp .Add) (fun x y H Q => ∃ i j, x = .str i ∧ y = .str j ∧ i.length + j.length ≤ sizeLine ∧ Q (.str (i ++ j)) H) := by
  intro pins s σ H x y v u Q I rx ry h
  obtain ⟨i, j, rfl, rfl, hz, q⟩ := h
  obtain ⟨t, rfl⟩ := rx
  obtain ⟨t', rfl⟩ := ry
  exact add_str (fun t' tk => ⟨.str (i ++ j), H, I.tok _, ⟨_, rfl⟩, q⟩) hz


/-! ### scalar builtins, by CallR -/
theorem vals1 {x : V} {us : List Value} (r : Vals [x] us) : ∃ u, us = [u] ∧ RelV x u := by
  cases r with
  | cons r1 r2 => cases r2; exact ⟨_, rfl, r1⟩
theorem vals2 {x y : V} {us : List Value} (r : Vals [x, y] us) : ∃ u w', us = [u, w'] ∧ RelV x u ∧ RelV y w' := by
  cases r with
  | cons r1 r2 =>
    cases r2 with
    | cons r3 r4 => cases r4; exact ⟨_, _, rfl, r1, r3⟩
theorem call_int1 : CallR X (.type "int") (fun xs H Q => (∃ i, xs = [.int i] ∧ Q (.int i) H) ∨ ∃ k, xs = [.bl k] ∧ Q (.int (if k then 1 else 0)) H) := by
  intro pins s σ H xs us Q I r h
  rcases h with ⟨i, rfl, q⟩ | ⟨k, rfl, q⟩
  · obtain ⟨u, rfl, t, rfl⟩ := vals1 r
    exact call_int_int ⟨.int i, H, I, ⟨_, rfl⟩, q⟩
  · obtain ⟨u, rfl, r1⟩ := vals1 r
    cases r1
    exact call_int_bool ⟨.int (if k then 1 else 0), H, I.tok _, ⟨_, rfl⟩, q⟩
end
end L2

namespace L2
open PySem PySem.Spec PyProof.Rows

/-! ### an instance, its attributes a map -/
structure ObjM (h : Heap) (x dx C : Addr) (mA : Str → Option Value) : Prop where
  obj : h.get? x = some (PySem.W.instObj C dx)
  ns : h.Ns1 dx mA
  ne : dx ≠ x

theorem lookIn_ns {h : Heap} {dx : Addr} {mA : Str → Option Value} (n : h.Ns1 dx mA) : ∃ od, h.get? dx = some od ∧ ∀ name, PySem.W.lookIn name od = some (mA name) := by
  obtain ⟨o, es, ep, ho, hd, hk, _, hm⟩ := n
  refine ⟨o, ho, fun name => ?_⟩
  have e := hm name
  unfold nsFind findBy at e
  rw [← Array.find?_toList] at e
  unfold PySem.W.lookIn
  rw [hd]
  dsimp only
  split
  · rename_i y q
    rw [q] at e
    exact congrArg some e
  · rename_i q
    rw [q] at e
    have a : es.toList.any (·.refKey) = false := by
      rw [List.any_eq_false]
      intro y hy
      obtain ⟨z, t, hkey⟩ := hk y (Array.mem_toList_iff.mp hy)
      simp [DictEntry.refKey, hkey]
    have a' : ¬ es.toList.any (·.refKey) = true := by rw [a]; exact Bool.false_ne_true
    rw [if_neg a']
    exact congrArg some e

theorem ObjM.look {h : Heap} {x dx C : Addr} {mA : Str → Option Value} (I : ObjM h x dx C mA) : ∃ od, PySem.W.InstAt h x (PySem.W.instObj C dx) C (some od) ∧ ∀ name, PySem.W.lookIn name od = some (mA name) :=
  let ⟨od, ho, hl⟩ := lookIn_ns I.ns
  ⟨od, ⟨I.obj, rfl, rfl, ho⟩, hl⟩

section
variable {prog : Program} {w : World} {A : Around} {E : Value → Shared → Prop} {s : Shared} {K : PySem.W.Frag} {x dx C f : Addr} {mA : Str → Option Value} {name : Str} {v : Value}





end

/-! ### the attributes as a list of pairs -/

theorem RelO.some_of {v : V} {o : Option Value} (r : RelO (some v) o) : ∃ u, o = some u ∧ RelV v u := by
  cases o with
  | none => exact (show False from r).elim
  | some u => exact ⟨u, rfl, r⟩

section
variable {P : Program} {w : World} {H H' : Hp} {h h' : Heap} {a C dx : Addr} {fs fs' : List (Str × V)}
theorem ins_get (hok : HOk P w H h) (e : H a = some (.ins C dx fs)) : ∃ mA, ObjM h a dx C mA ∧ (∀ f, RelO (fs.lookup f) (mA f)) ∧ PySem.Within mA (fs.map (·.1)) ∧ fs.length ≤ 1000 ∧ H dx = some (.own a) := by
  obtain ⟨d, z, ne, ob, mA, n, r, q⟩ := (show ObjOk P w H h a (.ins C dx fs) from hok a _ e)
  exact ⟨mA, ⟨ob, n, ne⟩, r, q, z, d⟩
end

/-! ### what of the text a class must have -/
structure Cls (K : PySem.W.Frag) (C : Addr) : Prop where
  pg : PySem.W.plainGet K C Str.empty = true
  hd : PySem.W.hasDictIn K C = true
  po : PySem.W.plainOver K C = true
  sa : PySem.W.findIn K (.ref C) "__setattr__" = some (some (.builtin "object.__setattr__"))
theorem Cls.get {K : PySem.W.Frag} {C : Addr} (c : Cls K C) (f : Str) : PySem.W.plainGet K C f = true := c.pg

section
variable {X : Cx} {pins : List (Addr × Obj)} {σ : St} {H : Hp} {s : Shared} {a C dx : Addr} {fs : List (Str × V)} {f : Str} {v : V} {A : Around} {E : Value → Shared → Prop}






end

/-! ### readings and rules -/

section
variable {X : Cx} {o e value : Expr} {f : Str} {pos pos' tpos : Pos} {ta tv : TE}

end

/-! ### isinstance -/
section
variable {X : Cx} {pins : List (Addr × Obj)} {σ : St} {H : Hp} {s : Shared} {A : Around} {E : Value → Shared → Prop} {Q : Value → Shared → Prop} {c : Value} {b : Bool}
/-- the type of a value, as the fragment's deciders take it; for an instance its class -/
inductive TyOf (K : PySem.W.Frag) (H : Hp) : V → Value → Prop where
  | non : TyOf K H .non (.type "NoneType")
  | bl (x : Bool) : TyOf K H (.bl x) (.type "bool")
  | int (i : Int) : TyOf K H (.int i) (.type "int")
  | str (x : Str) : TyOf K H (.str x) (.type "str")
  | flt (x : UInt64) : TyOf K H (.flt x) (.type "float")
  | lst {a : Addr} {xs : List V} (e : H a = some (.lst xs)) : TyOf K H (.ref a) (.type "list")
  | frz {a : Addr} {o : Obj} {xs : List V} (e : H a = some (.frz o (.lst xs))) : TyOf K H (.ref a) (.type "list")
  | tup {a : Addr} {xs : List V} (e : H a = some (.tup xs)) : TyOf K H (.ref a) (.type "tuple")
  | dK {a : Addr} {kvs : List (Key × V)} (e : H a = some (.dK kvs)) : TyOf K H (.ref a) (.type "dict")
  | dT {a : Addr} {kvs : List (List Key × V)} (e : H a = some (.dT kvs)) : TyOf K H (.ref a) (.type "dict")
  | ins {a C dx : Addr} {fs : List (Str × V)} (e : H a = some (.ins C dx fs)) (cl : Cls K C) (ha : PySem.W.findIn K (.ref C) "__class__" = some (some (.builtin "object.__class__")))
      (hn : PySem.W.specialIn K (.builtin "object.__class__") "__get__" = some (some (.builtin "getset_descriptor.__get__"))) (htk : PySem.W.takesIn K (.builtin "object.__class__") = some true)
      (hm : PySem.W.mroIn K C (.type "object") = some true) : TyOf K H (.ref a) (.ref C)
/-- isinstance(x, c) for one class c, a built-in or an own one: kitOne's answer -/
theorem isinst_ok {x : V} {u t : Value} (I : Inv X pins σ H s) (rx : RelV x u) (ty : TyOf X.K H x t) (e : PySem.W.kitOne X.K t c = some b) (h : ∀ tk, Q (.bool b) { s with toks := tk }) :
    wpAny (model X.prog X.w) A (call (.builtin "isinstance") [u, c]) Q E s := by
  cases ty with
  | non => cases (show u = Value.none from rx); exact PySem.W.kia_one PySem.W.kitx_none I.kIn True.intro e (fun z => nomatch z) h
  | bl y => cases (show u = Value.bool y from rx); exact PySem.W.kia_one PySem.W.kitx_bool I.kIn True.intro e (fun z => nomatch z) h
  | int i => obtain ⟨t, q⟩ := (show ∃ t, u = Value.int i t from rx); cases q; exact PySem.W.kia_one PySem.W.kitx_int I.kIn True.intro e (fun z => nomatch z) h
  | str y => obtain ⟨t, q⟩ := (show ∃ t, u = Value.str y t from rx); cases q; exact PySem.W.kia_one PySem.W.kitx_str I.kIn True.intro e (fun z => nomatch z) h
  | flt y => obtain ⟨t, q⟩ := (show ∃ t, u = Value.float y t from rx); cases q; exact PySem.W.kia_one PySem.W.kitx_float I.kIn True.intro e (fun z => nomatch z) h
  | @lst a xs ea =>
    cases (show u = Value.ref a from rx)
    obtain ⟨_, _, n, _, h1⟩ := (show ObjOk X.prog X.w H s.heap a (.lst xs) from I.hok a _ ea)
    exact PySem.W.kia_one PySem.W.kitx_list I.kIn ⟨_, h1, rfl⟩ e (fun z => nomatch z) h
  | @frz a ob xs ea =>
    cases (show u = Value.ref a from rx)
    obtain ⟨_, _, _, n, _, h1⟩ := (show ObjOk X.prog X.w H s.heap a (.frz ob (.lst xs)) from I.hok a _ ea)
    exact PySem.W.kia_one PySem.W.kitx_list I.kIn ⟨_, h1, rfl⟩ e (fun z => nomatch z) h
  | @tup a xs ea =>
    cases (show u = Value.ref a from rx)
    obtain ⟨_, _, _, p⟩ := (show ObjOk X.prog X.w H s.heap a (.tup xs) from I.hok a _ ea)
    obtain ⟨o, h1, h2, _⟩ := p
    exact PySem.W.kia_one PySem.W.kitx_tuple I.kIn ⟨o, h1, h2⟩ e (fun z => nomatch z) h
  | @dK a kvs ea =>
    cases (show u = Value.ref a from rx)
    obtain ⟨_, _, vs, _, p⟩ := (show ObjOk X.prog X.w H s.heap a (.dK kvs) from I.hok a _ ea)
    obtain ⟨o, es, ep, h1, h2, _⟩ := p
    exact PySem.W.kia_one PySem.W.kitx_dict I.kIn ⟨o, h1, h2.1⟩ e (fun z => nomatch z) h
  | @dT a kvs ea =>
    cases (show u = Value.ref a from rx)
    obtain ⟨_, _, xs, _, o, es, ep, h1, h2, _⟩ := (show ObjOk X.prog X.w H s.heap a (.dT kvs) from I.hok a _ ea)
    exact PySem.W.kia_one PySem.W.kitx_dict I.kIn ⟨o, h1, h2.1⟩ e (fun z => nomatch z) h
  | @ins a C dx fs ea cl ha hn htk hm =>
    cases (show u = Value.ref a from rx)
    obtain ⟨mA, O, _⟩ := ins_get I.hok ea
    obtain ⟨od, J, _⟩ := O.look
    exact PySem.W.kia_one (PySem.W.kitx_own (cl.get _) cl.hd ha hn htk hm) I.kIn J e (fun z => nomatch z) h
end
end L2

namespace L2
open PySem PySem.Spec PyProof.Rows

/-! ### room -/
structure Room (k : Nat) (A : Around) : Prop where
  hd : A.handled = none
  dp : A.depth + 3 * k + 5 < recursionLimit
  un : A.units + 16 * k + 200 < cLine
  gd : A.guards = some []
theorem Room.mono {j k : Nat} {A : Around} (r : Room k A) (h : j ≤ k) : Room j A := ⟨r.hd, by have := r.dp; omega, by have := r.un; omega, r.gd⟩
theorem Room.deeper {k : Nat} {A : Around} (r : Room (k + 1) A) (env : Env) : Room k (A.deeper env) :=
  ⟨r.hd, by have := r.dp; show A.depth + 1 + 3 * k + 5 < _; omega, by have := r.un; show A.units + 3 + 16 * k + 200 < _; omega, r.gd⟩
theorem Room.depth {k : Nat} {A : Around} (r : Room k A) : A.depth < recursionLimit := by have := r.dp; omega
theorem Room.units {k : Nat} {A : Around} (r : Room k A) : A.units + 64 < cLine := by have := r.un; omega

/-! ### argument lists and displays -/
def tNil : TA := fun _ H Q => Q [] H
def tCons (ta : TE) (tr : TA) : TA := fun σ H Q => ta σ H fun x H1 => tr σ H1 fun xs H2 => Q (x :: xs) H2
section
variable {X : Cx} {e : Expr} {es : List Expr} {te : TE} {t : TA} {pos : Pos}
theorem pa_nil : PA X [] tNil := fun _ _ _ _ H Q I h => Calls.spliced_nil ⟨[], H, I, .nil, h⟩
theorem pa_cons (ha : PE X e te) (hr : PA X es t) (hs : starEach (e :: es) X.env = (false, eval e X.env) :: starEach es X.env := by rfl) : PA X (e :: es) (tCons te t) := by
  intro pos pins s σ H Q I h
  rw [hs]
  show wpAny _ _ (spliced ((false, eval e X.env) :: backTo pos (starEach es X.env))) _ _ s
  refine Calls.spliced_cons (thn (ha pins s σ H _ I h) fun u s1 ⟨x, H1, I1, r1, q1⟩ => ?_)
  exact thn (hr pos pins s1 σ H1 _ I1 q1) fun us s2 ⟨xs, H2, I2, r2, q2⟩ => ⟨x :: xs, H2, I2, .cons r1 r2, q2⟩

/-- a tuple, a list of written items -/
def tTup (t : TA) : TE := fun σ H Q => t σ H fun xs H1 => xs.length ≤ sizeLine ∧ ∀ p, H1 p = none → Q (.ref p) (upd H1 p (.tup xs))
def tLst (t : TA) : TE := fun σ H Q => t σ H fun xs H1 => xs.length ≤ sizeLine ∧ ∀ p, H1 p = none → Q (.ref p) (upd H1 p (.lst xs))
theorem pe_tup {x1} (h : PA X es t) : PE X (.Tuple es x1 pos) (tTup t) := by
  intro pins s σ H Q I hq
  refine wpAny_Tuple_spliced (thn (h pos pins s σ H _ I hq) fun us s1 ⟨xs, H1, I1, r, z, q⟩ => ⟨by rw [← r.length]; exact z, ?_⟩)
  have hf : H1 s1.heap.objs.size = none := I1.hok.fresh (Nat.le_refl _)
  refine ⟨.ref s1.heap.objs.size, upd H1 s1.heap.objs.size (.tup xs), I1.laid (t' := s1.toks) (fun b u e => Heap.get?_push_of_some _ e) (Nat.le_refl _) ?_, rfl, q _ hf⟩
  exact ⟨z, us, r, ⟨_, Heap.get?_push_size _ rfl, rfl, _, rfl⟩⟩
theorem pe_lst (h : PA X es t) : PE X (.List es pos) (tLst t) := by
  intro pins s σ H Q I hq
  refine wpAny_List_spliced (thn (h pos pins s σ H _ I hq) fun us s1 ⟨xs, H1, I1, r, z, q⟩ => ⟨by rw [← r.length]; exact z, ?_⟩)
  have hf : H1 s1.heap.objs.size = none := I1.hok.fresh (Nat.le_refl _)
  refine ⟨.ref s1.heap.objs.size, upd H1 s1.heap.objs.size (.lst xs), I1.laid (t' := s1.toks) (fun b u e => Heap.get?_push_of_some _ e) (Nat.le_refl _) ?_, rfl, q _ hf⟩
  exact ⟨z, us, 0, r, Heap.get?_push_size _ rfl⟩
end

/-! ### what a def promises -/
/-- a def's promise: the bound arguments in the parameters' order, the heap, the wanted end, the wanted exception -/
abbrev Sp := List V → Hp → VK → XK → Prop
/-- how an exception lies behind a call (file 08 gives it): the callers' frames, abstract heap and state ahead of the call, the wish, the exception, the state -/
abbrev CXT := List Env → Hp → Shared → XK → Value → Shared → Prop

/-- the state at a call -/
structure Env0 (P : Program) (w : World) (K : PySem.W.Frag) (mg : Str → Option Value) (base : Heap) (A : Around) (outer : List Env) (s : Shared) (H : Hp) : Prop where
  frames : A.frames = some outer
  mod : Mod K mg base
  bs : ∀ b o, base.get? b = some o → s.heap.get? b = some o ∧ H b = none
  bsz : base.objs.size ≤ s.heap.objs.size
  funs : s.heap.FunFrames base outer
  frf : ∀ b ∈ frs outer, H b = none
  hok : HOk P w H s.heap
  bare : AllBare s.gens
/-- a call's end -/
def CE (outer : List Env) (P : Program) (w : World) (H : Hp) (s : Shared) (Q : VK) (u : Value) (s' : Shared) : Prop :=
  ∃ v H', s'.os = s.os ∧ AllBare s'.gens ∧ Un (frs outer) [] H H' s.heap s'.heap ∧ HOk P w H' s'.heap ∧ RelV v u ∧ Q v H'
def CR (CX : CXT) (outer : List Env) (P : Program) (w : World) (H : Hp) (s : Shared) (Q : VK) (E : XK) (r : Result) (s' : Shared) : Prop :=
  match r with
  | .ok (.ret u) => CE outer P w H s Q u s'
  | .ok _ => False
  | .error e => CX outer H s E e s'
structure FnOk (P : Program) (w : World) (K : PySem.W.Frag) (mg : Str → Option Value) (base : Heap) (CX : CXT) (k : Nat) (f : Addr) (fd : FuncData) (ps : List Str) (sp : Sp) : Prop where
  len : ∀ vs H Q E, sp vs H Q E → vs.length = ps.length
  run : ∀ (A : Around) (outer : List Env) (s : Shared) (H : Hp) (args : Args) (us : List Value) (vs : List V) (Q : VK) (E : XK), Room k A → Env0 P w K mg base A outer s H → BindsTo s fd args (ps.zip us) → Vals vs us → sp vs H Q E →
    codeAny (model P w) A (.call (.ref f) args) (CR CX outer P w H s Q E) s


section
variable {X : Cx} {pins : List (Addr × Obj)} {σ : St} {H : Hp} {s s' : Shared}
/-- from a body: what a callee wants -/
theorem Inv.env0 (I : Inv X pins σ H s) : Env0 X.prog X.w X.K X.mg X.base X.A X.stack s H :=
  ⟨I.ok.frames, I.ok.mod, I.bs, Nat.le_trans I.ok.bsz I.sz, I.stack, I.stkFree, I.hok, I.bare⟩
/-- behind a call -/
theorem Inv.after {Q : VK} {u : Value} (I : Inv X pins σ H s) (h : CE X.stack X.prog X.w H s Q u s') : EP X pins σ Q u s' := by
  obtain ⟨v, H', os, bare, un, hok, r, q⟩ := h
  obtain ⟨hh, g, d, t, os'⟩ := s'
  obtain rfl : os' = s.os := os
  exact ⟨v, H', I.call (h' := hh) (g' := g) (d' := d) (t' := t) (ch := []) un hok bare (fun b z => absurd z (by simp)), r, q⟩
end

/-! ### calls -/
/-- f(..): the written arguments, then the defaults dvs; E: what is wanted of an exception -/
def tCall (sp : Sp) (dvs : List V) (E : XK) (t : TA) : TE := fun σ H Q => t σ H fun vs H1 => sp (vs ++ dvs) H1 Q E

/-- how the parameters are bound: us the positional arguments, kw the keywords' values by name, ds the defaults that fill up -/
def Binds (K : PySem.W.Frag) (fd : FuncData) (ps : List Str) (ds : List Value) : Prop :=
  ∀ (s : Shared) (us : List Value), K.In s.heap → (us ++ ds).length = ps.length → BindsTo s fd ⟨us, []⟩ (ps.zip (us ++ ds))
/-- every parameter is given -/
theorem Binds.all {K : PySem.W.Frag} {fd : FuncData} {ps : List Str} (h : ∀ us : List Value, us.length = ps.length → bindArgs fd ⟨us, []⟩ = pure (ps.zip us)) : Binds K fd ps [] := fun s us _ hl => by
  rw [List.append_nil] at hl ⊢
  exact .of_eq (h us hl)

/-- an exception of a callee reaches what this body wants of exceptions -/
def Passes (CX : CXT) (X : Cx) (E : XK) : Prop := ∀ (pins : List (Addr × Obj)) (σ : St) (H : Hp) (s : Shared) (e : Value) (s' : Shared), Inv X pins σ H s → CX X.stack H s E e s' → X.xe e s'

section
variable {X : Cx} {CX : CXT} {k : Nat} {f C : Addr} {fd : FuncData} {ps : List Str} {sp : Sp} {dvs : List V} {ds : List Value} {E : XK} {x m : Str} {p pos apos : Pos} {e o : Expr} {es : List Expr} {ta : TE} {t : TA}

/-- the callee runs -/
theorem run_fn {pins : List (Addr × Obj)} {σ : St} {H : Hp} {s : Shared} {Q : VK} {us : List Value} {vs : List V} (F : FnOk X.prog X.w X.K X.mg X.base CX k f fd ps sp) (hr : Room k X.A) (hb : Binds X.K fd ps ds) (hd : Vals dvs ds) (hx : Passes CX X E)
    (I : Inv X pins σ H s) (r : Vals vs us) (h : sp (vs ++ dvs) H Q E) : wpAny (model X.prog X.w) X.A (call (.ref f) us) (EP X pins σ Q) X.xe s := by
  have r2 : Vals (vs ++ dvs) (us ++ ds) := r.append hd
  have hl : (us ++ ds).length = ps.length := by rw [← r2.length]; exact F.len _ _ _ _ h
  refine wpAny_call (codeAny_mono (F.run X.A X.stack s H ⟨us, []⟩ (us ++ ds) (vs ++ dvs) Q E hr I.env0 (hb s us I.kIn hl) r2 h) fun r s' hq => ?_)
  cases r with
  | error e => exact hx pins σ H s e s' I hq
  | ok fl =>
    cases fl with
    | ret u => exact I.after hq
    | next => exact False.elim hq
    | brk => exact False.elim hq
    | cont => exact False.elim hq

theorem pe_call (F : FnOk X.prog X.w X.K X.mg X.base CX k f fd ps sp) (hr : Room k X.A) (hg : Gl X x) (hm : X.mg x = some (.ref f)) (hk : PySem.W.keepIn X.K (.ref f) = true) (hb : Binds X.K fd ps ds) (hd : Vals dvs ds) (hx : Passes CX X E)
    (ha : PA X (e :: es) t) (hdb : (x == ("__debug__" : Str)) = false := by decide) (he : starEach (e :: es) X.env = (false, eval e X.env) :: starEach es X.env := by rfl) (hpl : (backTo pos (starEach es X.env)).any (·.1) = false := by rfl) :
    PE X (.Call (.Name x p) (e :: es) [] pos) (tCall sp dvs E t) := by
  intro pins s σ H Q I h
  refine wpAny_Call_Name_kw (ld_glob I hg hm ?_ hdb)
  refine PySem.W.callWith_K (h₀ := X.base) I.ok.mod.kin hk (thn (ha pos pins s σ H _ I h) fun us s1 ⟨vs, H1, I1, r, q⟩ => ⟨I1.kIn, ?_⟩) he hpl
  exact run_fn F hr hb hd hx I1 r q



end

/-! ### keywords -/
section
variable {X : Cx} {CX : CXT} {k : Nat} {f C : Addr} {fd : FuncData} {ps ks : List Str} {sp : Sp} {E : XK} {x m : Str} {p pos apos kpos : Pos} {e o : Expr} {es : List Expr} {kws : List Keyword} {te ta : TE} {t tk : TA} {nm : Option Str}

variable {g : List Value → List Value → List Value} {gV : List V → List V → List V}
end

/-! ### a def's body keeps its promise -/
/-- names: the parameters first -/
structure FnScope (N P : List Str) (sc : Scope) : Prop where
  kind : sc.kind = .function
  co : sc.isCoroutine = false
  gen : sc.isGenerator = false
  nd : N.Nodup
  pre : N.take P.length = P
  par : ∀ x ∈ P, sc.names.lookup x = some .local ∨ sc.names.lookup x = some .cell
  nofree : ∀ y ∈ sc.names, y.2 ≠ .free

theorem bindL_out {kindOf : Str → Option NameKind} {x : Str} : ∀ {binds : List (Str × Value)} {m : Str → Option Value}, (∀ v, (x, v) ∉ binds) → bindL kindOf binds m x = m x
  | [], _, _ => rfl
  | (n, v) :: r, m, h => by
    unfold bindL
    rw [bindL_out fun w hw => h w (List.mem_cons_of_mem _ hw)]
    split
    · have : x ≠ n := by rintro rfl; exact h v List.mem_cons_self
      simp [this]
    · rfl
theorem bindC_out {kindOf : Str → Option NameKind} {x : Str} : ∀ {binds : List (Str × Value)} {m : Str → Option Value}, (∀ v, (x, v) ∉ binds) → bindC kindOf binds m x = m x
  | [], _, _ => rfl
  | (n, v) :: r, m, h => by
    unfold bindC
    rw [bindC_out fun w hw => h w (List.mem_cons_of_mem _ hw)]
    split
    · rfl
    · have : x ≠ n := by rintro rfl; exact h v List.mem_cons_self
      simp [this]
theorem bindL_get {kindOf : Str → Option NameKind} {x : Str} {v : Value} : ∀ {P : List Str} {vs : List Value} {i : Nat} {m : Str → Option Value}, P.Nodup → P[i]? = some x → vs[i]? = some v → kindOf x = some .local →
    bindL kindOf (P.zip vs) m x = some v
  | [], _, _, _, _, h, _, _ => by simp at h
  | _ :: _, [], _, _, _, _, h, _ => by simp at h
  | p :: P, w :: vs, 0, m, nd, h1, h2, hk => by
    simp at h1 h2; subst h1; subst h2
    show bindL kindOf ((p, w) :: P.zip vs) m p = _
    unfold bindL
    rw [bindL_out fun v hv => (List.nodup_cons.mp nd).1 (List.of_mem_zip hv).1, if_pos hk]
    simp
  | p :: P, w :: vs, i + 1, m, nd, h1, h2, hk => by
    show bindL kindOf ((p, w) :: P.zip vs) m x = _
    unfold bindL
    exact bindL_get (i := i) (List.nodup_cons.mp nd).2 (by simpa using h1) (by simpa using h2) hk
theorem bindC_get {kindOf : Str → Option NameKind} {x : Str} {v : Value} : ∀ {P : List Str} {vs : List Value} {i : Nat} {m : Str → Option Value}, P.Nodup → P[i]? = some x → vs[i]? = some v → kindOf x ≠ some .local →
    bindC kindOf (P.zip vs) m x = some v
  | [], _, _, _, _, h, _, _ => by simp at h
  | _ :: _, [], _, _, _, _, h, _ => by simp at h
  | p :: P, w :: vs, 0, m, nd, h1, h2, hk => by
    simp at h1 h2; subst h1; subst h2
    show bindC kindOf ((p, w) :: P.zip vs) m p = _
    unfold bindC
    rw [bindC_out fun v hv => (List.nodup_cons.mp nd).1 (List.of_mem_zip hv).1, if_neg hk]
    simp
  | p :: P, w :: vs, i + 1, m, nd, h1, h2, hk => by
    show bindC kindOf ((p, w) :: P.zip vs) m x = _
    unfold bindC
    exact bindC_get (i := i) (List.nodup_cons.mp nd).2 (by simpa using h1) (by simpa using h2) hk

/-- the names' values at the entry -/
def start (N : List Str) (vs : List V) : St := vs.map some ++ List.replicate (N.length - vs.length) none

/-- the context of a def's body, at its entry; an exception leaves the frame, then lies as CX says -/
def cxOf (CX : CXT) (P : Program) (w : World) (K : PySem.W.Frag) (mg : Str → Option Value) (base : Heap) (N : List Str) (qual : Str) (scope : Scope) (f : Addr) (cd : Value) (A : Around) (outer : List Env) (s : Shared) (H : Hp) (E : XK) : Cx where
  prog := P
  w := w
  K := K
  mg := mg
  base := base
  A := A.deeper (envOfC qual scope s.heap.objs.size f cd)
  N := N
  s₀ := s
  H₀ := H
  env := envOfC qual scope s.heap.objs.size f cd
  outer := outer
  stack := envOfC qual scope s.heap.objs.size f cd :: outer
  ex := []
  calm := true
  fn := fun _ => true
  pn := []
  xe := fun e s' => wpAny (model P w) (A.deeper (envOfC qual scope s.heap.objs.size f cd)) (leaving (envOfC qual scope s.heap.objs.size f cd) e) (fun _ s'' => CX outer H s E e s'') (fun e' s'' => CX outer H s E e' s'') s'

theorem cell_has {sc : Scope} {n : Nat} {x : Str} (h : sc.names.lookup x = some .cell) : ∃ c, (cellsFrom n sc.names []).lookup x = some c := by
  have q := PySem.W.cellsFrom_some sc.names n [] (.inl h)
  exact Option.isSome_iff_exists.mp q

theorem inv_start {CX : CXT} {P : Program} {w : World} {K : PySem.W.Frag} {mg : Str → Option Value} {base : Heap} {N ps : List Str} {qual : Str} {scope : Scope} {f : Addr} {cd : Value} {A : Around} {outer : List Env} {s s1 : Shared} {H : Hp} {E : XK} {us : List Value} {vs : List V}
    (S : FnScope N ps scope) (hd : A.handled = none) (e0 : Env0 P w K mg base A outer s H) (hl : vs.length = ps.length) (r : Vals vs us)
    (x : InCallC s s.heap.objs.size (bindL (envOfC qual scope s.heap.objs.size f cd).kindOf (ps.zip us) fun _ => none) (cellsFrom (s.heap.objs.size + 1) scope.names []) (bindC (envOfC qual scope s.heap.objs.size f cd).kindOf (ps.zip us) fun _ => none) s1) :
    Inv (cxOf CX P w K mg base N qual scope f cd A outer s H E) [] (start N vs) H s1 := by
  have hpl : ps.length ≤ N.length := by have := congrArg List.length S.pre; rw [List.length_take] at this; omega
  obtain ⟨h1, tk, rfl, hk⟩ := x.done
  have noA : ∀ b : Addr, b ∉ (cxOf CX P w K mg base N qual scope f cd A outer s H E).ex := fun b z => absurd (show b ∈ ([] : List Addr) from z) (by simp)
  refine ⟨⟨e0.mod, S.kind, rfl, rfl, Nat.le_refl _, fun y z c h1 h2 => ?_, fun y hy => ?_, fun y c _ h => ?_, fun _ => hd, Around.frames_deeper e0.frames, .inr ⟨rfl, rfl⟩, fun b z => absurd z (noA b), e0.bs, e0.bsz, fun b _ _ => noA b, fun b z => absurd z (noA b), e0.funs, e0.frf⟩,
    rfl, e0.bare, Un.kept hk, ⟨_, x.toInCall.ns, fun i y v h1 h2 h3 => ?_⟩, fun y c h => ⟨_, x.cell y c h⟩, e0.hok.fresh (Nat.le_refl _), fun y c h => ?_, fun p hp => absurd (show p ∈ ([] : List (Addr × Obj)) from hp) (by simp), e0.hok.kept hk, ?_⟩
  · exact name_of_addr x.apart (PySem.mem_of_lookup h1) (PySem.mem_of_lookup h2)
  · have hy : scope.names.lookup y = some .cell ∨ scope.names.lookup y = some .free := hy
    rcases hy with hy | hy
    · exact cell_has hy
    · exact absurd rfl (S.nofree _ (PySem.mem_of_lookup hy))
  · exact Nat.le_of_lt (x.above y c (PySem.mem_of_lookup h))
  · have hi : i < vs.length := by
      unfold start at h2
      by_cases hi : i < vs.length
      · exact hi
      · rw [List.getElem?_append_right (by simpa using hi)] at h2
        rw [List.getElem?_replicate] at h2
        split at h2 <;> cases h2
    have ha : vs[i]? = some v := by
      unfold start at h2
      rw [List.getElem?_append_left (by simpa using hi), List.getElem?_map] at h2
      cases e : vs[i]? with
      | none => rw [e] at h2; cases h2
      | some a => rw [e] at h2; cases h2; rfl
    obtain ⟨u, hu, rv⟩ := r.get ha
    have hp : ps[i]? = some y := by
      rw [← S.pre, List.getElem?_take_of_lt (by omega)]; exact h1
    have ndP : ps.Nodup := by rw [← S.pre]; exact S.nd.sublist (List.take_sublist _ _)
    refine ⟨u, rv, ?_⟩
    rcases S.par y (List.mem_of_getElem? hp) with k | k
    · exact .inl ⟨k, bindL_get ndP hp hu k⟩
    · obtain ⟨c, e⟩ := cell_has (n := s.heap.objs.size + 1) k
      refine .inr ⟨.inl k, c, e, ?_⟩
      have q := x.cell y c e
      rw [bindC_get ndP hp hu (by show scope.names.lookup y ≠ _; rw [k]; decide)] at q
      exact q
  · exact e0.hok.fresh (Nat.le_of_lt (x.above y c (PySem.mem_of_lookup h)))
  · unfold start
    show _ = N.length
    rw [List.length_append, List.length_map, List.length_replicate]
    omega

/-- THE RULE: a def (or a method) of the text, by its body. The body's reading t is chosen for each entry; it is run at the parameters' values -/
theorem fn_of {CX : CXT} {P : Program} {w : World} {K : PySem.W.Frag} {mg : Str → Option Value} {base : Heap} {k : Nat} {f : Addr} {name qual : Str} {params : Arguments} {body : List Stmt} {scope : Scope} {dV kV doc pm cdv ct oc : Value} {an od : Option Addr}
    {osl : Array (Option Value)} {N ps : List Str} {sp : Sp} (lk : K.lookup f = some ⟨oc, od, .func (PySem.W.fnOf name qual params body scope dV kV doc pm an cdv ct), osl⟩) (hcd : PySem.W.codeIn K cdv qual = true) (S : FnScope N ps scope)
    (len : ∀ vs H Q E, sp vs H Q E → vs.length = ps.length)
    (hbody : ∀ (A : Around) (outer : List Env) (s : Shared) (H : Hp) (vs : List V) (Q : VK) (E : XK), Room k (A.deeper (envOfC qual scope s.heap.objs.size f cdv)) → sp vs H Q E →
      ∃ t, PSs (cxOf CX P w K mg base N qual scope f cdv A outer s H E) body t ∧ t { nx := fun _ H' => Q .non H', rt := Q } (start N vs) H) :
    FnOk P w K mg base CX (k + 1) f (PySem.W.fnOf name qual params body scope dV kV doc pm an cdv ct) ps sp := by
  refine ⟨len, fun A outer s H args us vs Q E hr e0 hb r hsp => ?_⟩
  have hl := len _ _ _ _ hsp
  have KX : K.In s.heap := e0.mod.kin.keeps fun b o e => (e0.bs b o e).1
  have lim : s.heap.NoLimit := e0.mod.nolimit.keeps fun b o e => (e0.bs b o e).1
  have hkind : ∀ y ∈ ps.zip us, scope.names.lookup y.1 = some .local ∨ (scope.names.lookup y.1 = some .cell ∧ ((cellsFrom (s.heap.objs.size + 1) scope.names []).lookup y.1).isSome = true) := fun ⟨n, v⟩ hy => by
    rcases S.par n (List.of_mem_zip hy).1 with q | q
    · exact .inl q
    · exact .inr ⟨q, PySem.W.cellsFrom_some _ _ _ (.inl q)⟩
  refine codeAny_call_function hr.depth (KX _ _ lk) rfl S.co S.gen rfl (PySem.W.codeRec_of KX hcd) (hb _ _ _ _ ?_)
  refine wpAny_newFunctionEnv_cells S.kind hkind fun env he s1 x => ?_
  subst he
  refine ⟨lim.keeps x.toInCall.keep, codeAny_func ?_⟩
  obtain ⟨t, ht, hq⟩ := hbody A outer s H vs Q E (hr.deeper _) hsp
  have I : Inv (cxOf CX P w K mg base N qual scope f cdv A outer s H E) [] (start N vs) H s1 := inv_start S hr.hd e0 hl r x
  refine wpAny_mono (ht [] s1 (start N vs) H _ I hq) (fun fl s' hs => ?_) fun e s' hs => hs
  have fin : ∀ {σ' : St} {H' : Hp} {v : V} {u : Value}, Inv (cxOf CX P w K mg base N qual scope f cdv A outer s H E) [] σ' H' s' → RelV v u → Q v H' → CE outer P w H s Q u s' :=
    fun {σ' H' v u} J rv q => ⟨v, H', J.os, J.bare, J.base, J.hok, rv, q⟩
  cases fl with
  | ret u =>
    obtain ⟨v, σ', H', J, rv, q⟩ := hs
    exact fin J rv q
  | next =>
    obtain ⟨σ', H', J, q⟩ := hs
    exact fin (v := V.non) (u := Value.none) J rfl q
  | brk =>
    obtain ⟨_, _, _, q⟩ := hs
    exact False.elim q
  | cont =>
    obtain ⟨_, _, _, q⟩ := hs
    exact False.elim q
end L2

namespace L2
open PySem PySem.Spec PyProof.Rows
section
variable {X : Cx} {x : Str} {p pos : Pos} {e : Expr} {es : List Expr} {t : TA} {id T : String} {r : List V → Hp → VK → Prop}

def tCB (r : List V → Hp → VK → Prop) (t : TA) : TE := fun σ H Q => t σ H fun vs H1 => r vs H1 Q
/-- f(e, ..), f a built-in function -/
theorem pe_callB (hc : CallR X (.builtin id) r) (hg : Gl X x) (hm : X.mg x = none) (hv : bootBuiltins x = some (.builtin id)) (ha : PA X (e :: es) t) (hn : x ≠ "__name__" := by decide) (hdb : (x == ("__debug__" : Str)) = false := by decide)
    (he : starEach (e :: es) X.env = (false, eval e X.env) :: starEach es X.env := by rfl) (hpl : (backTo pos (starEach es X.env)).any (·.1) = false := by rfl) : PE X (.Call (.Name x p) (e :: es) [] pos) (tCB r t) := by
  intro pins s σ H Q I h
  refine wpAny_Call_Name_kw (ld_blt I hg hm hv ?_ hn hdb)
  exact PyProof.Rows.callWith_builtin1 (thn (ha pos pins s σ H _ I h) fun us s1 ⟨vs, H1, I1, r1, q1⟩ => hc pins s1 σ H1 vs us Q I1 r1 q1) he hpl
/-- T(e, ..), T a built-in type -/
theorem pe_callTy (hc : CallR X (.type T) r) (hg : Gl X x) (hm : X.mg x = none) (hv : bootBuiltins x = some (.type T)) (ha : PA X (e :: es) t) (hn : x ≠ "__name__" := by decide) (hdb : (x == ("__debug__" : Str)) = false := by decide)
    (he : starEach (e :: es) X.env = (false, eval e X.env) :: starEach es X.env := by rfl) (hpl : (backTo pos (starEach es X.env)).any (·.1) = false := by rfl) : PE X (.Call (.Name x p) (e :: es) [] pos) (tCB r t) := by
  intro pins s σ H Q I h
  refine wpAny_Call_Name_kw (ld_blt I hg hm hv ?_ hn hdb)
  exact PyProof.Rows.callWith_type1 (thn (ha pos pins s σ H _ I h) fun us s1 ⟨vs, H1, I1, r1, q1⟩ => hc pins s1 σ H1 vs us Q I1 r1 q1) he hpl
end
end L2

namespace HT
open PySem PyProof.Rows



section
open PySem.SeqAt
open PySem.AutoSeq1 (wpAny_loadPart')
open PySem.MeetsSeq PySem.MeetsSeq2 PySem.MeetsSeq3

end

section
variable {prog : Program} {w : World} {A : Around} {E : Value → Shared → Prop} {s : Shared}


/-- t + u, t not empty -/
theorem cat_tup {t b : Addr} {vs ws : List Value} {Q : Value → Shared → Prop} (ht : IsTup s.heap t vs.toArray) (hb : IsTup s.heap b ws.toArray) (hv : vs ≠ [])
    (h1 : ws = [] → Q (.ref t) s) (h2 : ws ≠ [] → Q (.ref s.heap.objs.size) { s with heap := s.heap.push { cls := .type "tuple", data := .seq (vs ++ ws).toArray } })
    (hsz : vs.length + ws.length ≤ sizeLine) : wpAny (model prog w) A (binaryOp .Add (.ref t) (.ref b)) Q E s := by
  obtain ⟨⟨cls, dd, data, sl⟩, ho, hc, n, hd⟩ := id ht
  obtain ⟨⟨cls2, dd2, data2, sl2⟩, ho2, hc2, n2, hd2⟩ := id hb
  simp only at hc hd hc2 hd2
  subst hc hd hc2 hd2
  have e : vs.toArray ++ ws.toArray = (vs ++ ws).toArray := by simp
  by_cases hw : ws = []
  · exact concat_meets ⟨_, ho, rfl⟩ ⟨_, ho2, rfl⟩ noFill_tuple_add seq_tuple_add PySem.F.slot_tuple_add PySem.F.entry_tuple_add (PySem.F.args_tuple_add_2 _ _)
      (tuple_addW1 t b vs.toArray ws.toArray n n2 dd dd2 sl sl2 (by simpa using hv) (by simp [hw])) ⟨ho, ho2, h1 hw⟩
  · refine concat_meets ⟨_, ho, rfl⟩ ⟨_, ho2, rfl⟩ noFill_tuple_add seq_tuple_add PySem.F.slot_tuple_add PySem.F.entry_tuple_add (PySem.F.args_tuple_add_2 _ _)
      (tuple_addW2 t b vs.toArray ws.toArray n n2 dd dd2 sl sl2 (by simpa using hv) (by simpa using hw) (by rw [List.size_toArray, List.size_toArray]; exact hsz)) ⟨ho, ho2, ?_⟩
    rw [e]
    exact h2 hw

/-! ### t[a:b], not the whole -/
/-- a slice's bound as a place among n (d where it is left out) -/
def sIx (n d : Nat) : Option Int → Nat
  | none => d
  | some v => if v < 0 then (v + (n : Int)).toNat else min v.toNat n
theorem sIx_none (n d : Nat) : sIx n d none = d := rfl
theorem sIx_nat (n d k : Nat) : sIx n d (some (k : Int)) = min k n := by
  show (if (k : Int) < 0 then ((k : Int) + (n : Int)).toNat else min (k : Int).toNat n) = min k n
  rw [if_neg (by omega), Int.toNat_natCast]
theorem sIx_le (n d : Nat) (hd : d ≤ n) (o : Option Int) : sIx n d o ≤ n := by
  cases o with
  | none => exact hd
  | some v =>
    show (if v < 0 then (v + (n : Int)).toNat else min v.toNat n) ≤ n
    by_cases hv : v < 0
    · rw [if_pos hv]; omega
    · rw [if_neg hv]; exact Nat.min_le_right _ _
theorem clip_eq (v : Int) (n d : Nat) : (if v < 0 then max (v + (n : Int)) 0 else min v (n : Int)) = ((sIx n d (some v) : Nat) : Int) := by
  show (if v < 0 then max (v + (n : Int)) 0 else min v (n : Int)) = (((if v < 0 then (v + (n : Int)).toNat else min v.toNat n) : Nat) : Int)
  by_cases hv : v < 0
  · simp only [if_pos hv]; omega
  · simp only [if_neg hv]; omega
theorem adjust_gen (lo hi : Option Int) (n : Nat) : Builtin.Slice.sliceAdjust lo hi 1 (n : Int) = (((sIx n 0 lo : Nat) : Int), ((sIx n n hi : Nat) : Int)) := by
  have h1 : ¬ ((1 : Int) < 0) := by omega
  unfold Builtin.Slice.sliceAdjust
  simp only [h1, if_false]
  refine Prod.ext ?_ ?_
  · cases lo with
    | none => rfl
    | some v => exact clip_eq v n 0
  · cases hi with
    | none => rfl
    | some v => exact clip_eq v n n
theorem places_gen (i j : Nat) : Builtin.Slice.slicePlaces (i : Int) (j : Int) 1 = j - i := by
  unfold Builtin.Slice.slicePlaces
  have h1 : (1 : Int) > 0 := by omega
  simp only [h1, if_true, Int.ediv_one]
  split <;> omega
theorem slicePart_ {v : Value} {o : Option Int} {Q : Option Int → Shared → Prop} (p : IsPart v o) (h : Q o s) : wpAny (model prog w) A (Builtin.Slice.slicePartIndex v) Q E s := by
  cases p with
  | none => exact slicePart_none h
  | int i t => exact slicePart_int h
theorem sliceApplied_gen {sl : Addr} {vl vu : Value} {lo hi : Option Int} {n : Nat} {Q : Int × Int × Nat → Shared → Prop} (hs : s.heap.IsSliceOf sl vl vu .none) (pl : IsPart vl lo) (pu : IsPart vu hi)
    (h : Q (((sIx n 0 lo : Nat) : Int), 1, sIx n n hi - sIx n 0 lo) s) : wpAny (model prog w) A (Builtin.Slice.sliceApplied (.ref sl) (pure (n : Int))) Q E s := by
  obtain ⟨os, hos, hcs, hds⟩ := id hs
  unfold Builtin.Slice.sliceApplied Builtin.Slice.sliceFields
  refine wpAny_bind (wpAny_bind (wpAny_field hos hds (x := vl) rfl (wpAny_bind (wpAny_field hos hds (x := vu) rfl (wpAny_bind (wpAny_field hos hds (x := .none) rfl (wpAny_pure ?_)))))))
  refine wpAny_bind (slicePart_none ?_)
  show wpAny _ _ (if ((1 : Int) == 0) = true then _ else _) _ _ s
  rw [if_neg (by decide)]
  refine wpAny_bind (slicePart_ pl (wpAny_bind (slicePart_ pu (wpAny_bind (wpAny_pure ?_)))))
  show wpAny _ _ (match Builtin.Slice.sliceAdjust lo hi 1 (n : Int) with | (lo, hi) => pure (lo, (1 : Int), Builtin.Slice.slicePlaces lo hi 1)) _ _ s
  rw [adjust_gen lo hi n]
  show wpAny _ _ (pure (((sIx n 0 lo : Nat) : Int), (1 : Int), Builtin.Slice.slicePlaces ((sIx n 0 lo : Nat) : Int) ((sIx n n hi : Nat) : Int) 1)) _ _ s
  rw [places_gen]
  exact wpAny_pure h
theorem pick_gen (xs : Array Value) (i k : Nat) : ((List.range k).filterMap fun (m : Nat) => xs[((i : Int) + (m : Int) * 1).toNat]?).toArray = ((xs.toList.drop i).take k).toArray := by
  have e : (fun (m : Nat) => xs[((i : Int) + (m : Int) * 1).toNat]?) = fun m => xs[i + m]? := by
    funext m
    have : ((i : Int) + (m : Int) * 1).toNat = i + m := by omega
    rw [this]
  rw [e]
  have := pick_run xs i k
  rw [List.filterMap_map] at this
  have e2 : ((fun x => xs[x]?) ∘ fun x => i + x) = fun m => xs[i + m]? := rfl
  rw [e2] at this
  rw [this]

theorem getItem_tuple_cut {t sl : Addr} {items : Array Value} {vl vu : Value} {lo hi : Option Int} {Q : Value → Shared → Prop} (ht : IsTup s.heap t items) (hs : s.heap.IsSliceOf sl vl vu .none) (pl : IsPart vl lo) (pu : IsPart vu hi)
    (hw : ¬ (sIx items.size 0 lo = 0 ∧ sIx items.size items.size hi = items.size))
    (h : Q (.ref s.heap.objs.size) { s with heap := s.heap.push { cls := .type "tuple", data := .seq ((items.toList.drop (sIx items.size 0 lo)).take (sIx items.size items.size hi - sIx items.size 0 lo)).toArray } })
    (hsz : items.size ≤ sizeLine) : wpAny (model prog w) A (getItem (.ref t) (.ref sl)) Q E s := by
  have htake : sizeOk (.seq ((items.toList.drop (sIx items.size 0 lo)).take (sIx items.size items.size hi - sIx items.size 0 lo)).toArray) := by
    show ((items.toList.drop (sIx items.size 0 lo)).take (sIx items.size items.size hi - sIx items.size 0 lo)).toArray.size ≤ sizeLine
    rw [List.size_toArray, List.length_take, List.length_drop, Array.length_toList]
    omega
  have hj : sIx items.size items.size hi ≤ items.size := sIx_le _ _ (Nat.le_refl _) hi
  obtain ⟨os, hos, hcs, hds⟩ := id hs
  have hTs : s.TypeIs (.ref sl) "slice" := ⟨os, hos, hcs⟩
  unfold getItem
  try with_reducible refine wpAny_holding ?_
  first | refine wpAny_bind (wpAny_pure ?_) | skip
  refine wpAny_bind (wpAny_sequenceKey ht.typeIs (by decide) ?_)
  refine wpAny_bind (wpAny_callSpecial?_slot (name := Str.ofString "__getitem__") ht.typeIs PyProof.Rows.slot_tuple_getitem
    (wpAny_call_entry PyProof.Rows.slot_tuple_getitem ht.typeIs entry_tuple_getitem ?_ (args_tuple_getitem _ _)))
  show wpAny _ _ (Builtin.Tuple.tupleItemsOf (.ref t) >>= _) _ _ s
  refine wpAny_bind (tupleItemsOf_ ht ?_)
  refine wpAny_bind (wpAny_typeOf hTs ?_)
  rw [if_pos (by decide)]
  refine wpAny_bind (sliceApplied_gen hs pl pu ?_)
  have hno : ¬ ((((sIx items.size 0 lo : Nat) : Int) == 0 && (1 : Int) == 1 && (sIx items.size items.size hi - sIx items.size 0 lo) == items.size) = true) := by
    intro q
    rw [Bool.and_eq_true, Bool.and_eq_true] at q
    have q1 : ((sIx items.size 0 lo : Nat) : Int) = 0 := eq_of_beq q.1.1
    have q2 : sIx items.size items.size hi - sIx items.size 0 lo = items.size := eq_of_beq q.2
    exact hw ⟨by omega, by omega⟩
  show wpAny _ _ (if (((sIx items.size 0 lo : Nat) : Int) == 0 && (1 : Int) == 1 && (sIx items.size items.size hi - sIx items.size 0 lo) == items.size) = true then _ else _) _ _ s
  rw [if_neg hno, pick_gen]
  first
    | exact wpAny_bind (m := Builtin.Tuple.tupleExact _) (wpAny_newObj_type (wpAny_pure ⟨_, rfl, wpAny_pure h⟩) htake)
    | exact wpAny_bind (m := Builtin.Tuple.tupleExact _) (wpAny_newObj_type (wpAny_bind (wpAny_pure (wpAny_pure ⟨_, rfl, wpAny_pure h⟩))) htake)
    | exact wpAny_bind (wpAny_bind (m := Builtin.Tuple.tupleExact _) (wpAny_newObj_type (wpAny_pure (wpAny_pure ⟨_, rfl, wpAny_pure h⟩)) htake))
    | exact wpAny_bind (wpAny_bind (m := Builtin.Tuple.tupleExact _) (wpAny_newObj_type (wpAny_pure ⟨_, rfl, wpAny_pure h⟩) htake))
end
end HT

namespace L2
open PySem PySem.Spec PyProof.Rows

/-! ### the parts of a slice -/
abbrev TO := St → Hp → (Option Int → Hp → Prop) → Prop
/-- a slice's part (left out, or an int) -/
def PO (X : Cx) (e : Option Expr) (t : TO) : Prop :=
  ∀ (pins : List (Addr × Obj)) (s : Shared) (σ : St) (H : Hp) (Q : Option Int → Hp → Prop), Inv X pins σ H s → t σ H Q →
    wpAny (model X.prog X.w) X.A (evalPart e X.env) (fun u s' => ∃ o H', Inv X pins σ H' s' ∧ IsPart u o ∧ Q o H') X.xe s
def tNoPart : TO := fun _ H Q => Q none H
def tPart (t : TE) : TO := fun σ H Q => t σ H fun x H1 => ∃ i, x = .int i ∧ Q (some i) H1


section
variable {X : Cx} {e : Expr} {te : TE} {lo hi : Option Expr} {tl th : TO} {pos p2 : Pos}

theorem po_none : PO X none tNoPart := by
  intro pins s σ H Q I h
  rw [evalPart_none]
  exact wpAny_pure ⟨none, H, I, .none, h⟩
theorem po_some (h : PE X e te) : PO X (some e) (tPart te) := by
  intro pins s σ H Q I hw
  rw [evalPart_some]
  refine thn (h pins s σ H _ I hw) fun u s1 ⟨x, H1, I1, r1, q1⟩ => ?_
  obtain ⟨i, rfl, q⟩ := q1
  obtain ⟨t, rfl⟩ := r1
  exact ⟨some i, H1, I1, .int i t, q⟩

/-- what a slice of a value is, by values: the slice object stands at sl -/
def SlR (X : Cx) (r : V → Option Int → Option Int → Hp → VK → Prop) : Prop :=
  ∀ (pins : List (Addr × Obj)) (s : Shared) (σ : St) (H : Hp) (x : V) (v vl vu : Value) (lo hi : Option Int) (sl : Addr) (Q : VK), Inv X pins σ H s → RelV x v → s.heap.IsSliceOf sl vl vu .none → IsPart vl lo → IsPart vu hi → r x lo hi H Q →
    ∃ T id, typeLookup (.type T) "__getitem__" = pure (some (.builtin id)) ∧ s.TypeIs v T ∧ wpAny (model X.prog X.w) X.A (getItem v (.ref sl)) (EP X pins σ Q) X.xe s
def tSl (r : V → Option Int → Option Int → Hp → VK → Prop) (te : TE) (tl th : TO) : TE := fun σ H Q => te σ H fun x H1 => tl σ H1 fun l H2 => th σ H2 fun u H3 => r x l u H3 Q
/-- a[lo:hi], any a -/
theorem pe_slice {r : V → Option Int → Option Int → Hp → VK → Prop} (hr : SlR X r) (he : PE X e te) (hl : PO X lo tl) (hu : PO X hi th) : PE X (.Subscript e (.Slice lo hi none p2) pos) (tSl r te tl th) := by
  intro pins s σ H Q I h
  refine Subscript_ (thn (he pins s σ H _ I h) fun v s1 ⟨x, H1, I1, r1, q1⟩ => ?_)
  refine wpAny_Slice (thn (hl pins s1 σ H1 _ I1 q1) fun vl s2 ⟨l, H2, I2, pl, q2⟩ => thn (hu pins s2 σ H2 _ I2 q2) fun vu s3 ⟨u, H3, I3, pu, q3⟩ => ?_)
  rw [evalPart_none]
  refine wpAny_pure ?_
  have I4 : Inv X pins σ H3 { s3 with heap := s3.heap.push { cls := .type "slice", data := .fields #[vl, vu, .none] } } := I3.kept (t' := s3.toks) fun b ob q => Heap.get?_push_of_some _ q
  obtain ⟨T, id, hT, ht, hg⟩ := hr pins { s3 with heap := s3.heap.push { cls := .type "slice", data := .fields #[vl, vu, .none] } } σ H3 x v vl vu l u s3.heap.objs.size Q I4 r1 (Heap.IsSliceOf.new ..) pl pu q3
  show wpAny (model X.prog X.w) X.A (subscriptTail e (.Slice lo hi none p2) v (.ref s3.heap.objs.size)) (EP X pins σ Q) X.xe { s3 with heap := s3.heap.push { cls := .type "slice", data := .fields #[vl, vu, .none] } }
  exact tail_any (ops := [.ref s3.heap.objs.size, v]) ht hT hg (by with_unfolding_all rfl)

/-- the items of xs[lo:hi] -/
def cutV (xs : List V) (lo hi : Option Int) : List V := (xs.drop (HT.sIx xs.length 0 lo)).take (HT.sIx xs.length xs.length hi - HT.sIx xs.length 0 lo)
theorem cutV_length (xs : List V) (lo hi : Option Int) : (cutV xs lo hi).length ≤ xs.length := by
  unfold cutV
  rw [List.length_take, List.length_drop]
  omega
/-- t[lo:hi], not the whole of it (the whole would be t itself) -/
def rSlT (K : PySem.W.Frag) : V → Option Int → Option Int → Hp → VK → Prop := fun x lo hi H Q => ∃ a xs, x = .ref a ∧ SqT K H a xs ∧
  ¬ (HT.sIx xs.length 0 lo = 0 ∧ HT.sIx xs.length xs.length hi = xs.length) ∧ ∀ p, H p = none → Q (.ref p) (upd H p (.tup (cutV xs lo hi)))
theorem sl_tup : SlR X (rSlT X.K) := by
  intro pins s σ H x v vl vu lo hi sl Q I rx hs pl pu h
  obtain ⟨a, xs, rfl, hx, hw, q⟩ := h
  cases rx
  obtain ⟨its, r, ht, hz⟩ := I.tuple hx
  have hlen : its.toArray.size = xs.length := by rw [List.size_toArray]; exact r.length.symm
  refine ⟨"tuple", _, PyProof.Rows.slot_tuple_getitem.lookup, ht.typeIs, ?_⟩
  refine HT.getItem_tuple_cut ht hs pl pu (by rw [hlen]; exact hw) ?_ (by rw [hlen]; exact hz)
  rw [hlen]
  refine ⟨.ref s.heap.objs.size, _, I.laid (t' := s.toks) (o := .tup (cutV xs lo hi)) (fun b ob q => Heap.get?_push_of_some _ q) (Nat.le_refl _) ?_, rfl, q _ (I.hok.fresh (Nat.le_refl _))⟩
  exact ⟨Nat.le_trans (cutV_length xs lo hi) hz, _, (r.drop (HT.sIx xs.length 0 lo)).take (HT.sIx xs.length xs.length hi - HT.sIx xs.length 0 lo), IsTup.new _ _⟩

/-! ### t < u, t + u -/
/-- t + u, t not empty: u empty gives t itself -/
def rCatT (K : PySem.W.Frag) : R2 := fun x y H Q => ∃ a b xs ys, x = .ref a ∧ y = .ref b ∧ SqT K H a xs ∧ SqT K H b ys ∧ xs ≠ [] ∧ xs.length + ys.length ≤ sizeLine ∧
  (ys = [] → Q (.ref a) H) ∧ (ys ≠ [] → ∀ p, H p = none → Q (.ref p) (upd H p (.tup (xs ++ ys))))
theorem Vals.nil_iff {xs : List V} {us : List Value} (r : Vals xs us) : us = [] ↔ xs = [] := by
  cases r with
  | nil => simp
  | cons _ _ => simp
theorem op_catT : OpR X (binaryOp .Add) (rCatT X.K) := by
  intro pins s σ H x y v u Q I rx ry h
  obtain ⟨a, b, xs, ys, rfl, rfl, ha, hb, hx, hz, q1, q2⟩ := h
  cases rx
  cases ry
  obtain ⟨its, r1, p1, _⟩ := I.tuple ha
  obtain ⟨its2, r2, p2, _⟩ := I.tuple hb
  refine HT.cat_tup p1 p2 (fun z => hx (r1.nil_iff.mp z)) (fun z => ⟨.ref a, H, I, rfl, q1 (r2.nil_iff.mp z)⟩) (fun z => ?_) (by rw [← r1.length, ← r2.length]; exact hz)
  refine ⟨.ref s.heap.objs.size, _, I.laid (t' := s.toks) (o := .tup (xs ++ ys)) (fun b ob q => Heap.get?_push_of_some _ q) (Nat.le_refl _) ?_, rfl, q2 (fun w => z (r2.nil_iff.mpr w)) _ (I.hok.fresh (Nat.le_refl _))⟩
  exact ⟨by rw [List.length_append]; exact hz, _, r1.append r2, IsTup.new _ _⟩
end
end L2

namespace L2
open PySem PySem.Spec PyProof.Rows

/-! ### places -/
/-- the place that an index of any sign means -/
def ixN (n : Nat) (i : Int) : Option Nat := if 0 ≤ i then (if i < n then some i.toNat else none) else if -(n : Int) ≤ i then some (i + n).toNat else none
def atI {α : Type} (xs : List α) (i : Int) : Option α := (ixN xs.length i).bind fun j => xs[j]?
theorem ixN_seq {n : Nat} {i : Int} {j : Nat} (h : ixN n i = some j) : seqIndex? i n = some j ∧ j < n ∧ -(n : Int) ≤ i ∧ i < n := by
  unfold ixN at h
  by_cases h0 : 0 ≤ i
  · rw [if_pos h0] at h
    by_cases h1 : i < n
    · rw [if_pos h1] at h
      have e : i.toNat = j := Option.some.inj h
      exact ⟨by rw [seqIndex_of h0 h1, e], by omega, by omega, h1⟩
    · rw [if_neg h1] at h; cases h
  · rw [if_neg h0] at h
    by_cases h1 : -(n : Int) ≤ i
    · rw [if_pos h1] at h
      have e : (i + n).toNat = j := Option.some.inj h
      exact ⟨by rw [seqIndex_neg (by omega) h1, e], by omega, h1, by omega⟩
    · rw [if_neg h1] at h; cases h
theorem atI_get {α : Type} {xs : List α} {i : Int} {v : α} (h : atI xs i = some v) : ∃ j, seqIndex? i xs.length = some j ∧ xs[j]? = some v ∧ j < xs.length ∧ -(xs.length : Int) ≤ i ∧ i < xs.length := by
  unfold atI at h
  cases e : ixN xs.length i with
  | none => rw [e] at h; cases h
  | some j =>
    rw [e] at h
    obtain ⟨h1, h2, h3, h4⟩ := ixN_seq e
    exact ⟨j, h1, h, h2, h3, h4⟩
theorem atI_last {α : Type} (xs : List α) (v : α) : atI (xs ++ [v]) (-1) = some v := by
  have hl : (xs ++ [v]).length = xs.length + 1 := by simp
  have e : ixN (xs ++ [v]).length (-1) = some xs.length := by
    unfold ixN
    rw [hl, if_neg (by decide), if_pos (by omega)]
    congr 1
    omega
  unfold atI
  rw [e]
  show (xs ++ [v])[xs.length]? = some v
  simp

/-! ### what may be subscripted -/
/-- what stands as an index of a plain subscript -/
def PlainIx (b : Expr) : Prop := ∀ o i, subscripted b false o i = operate [o, i] (getItem o i)
/-- a subscript by values -/
def IxR (X : Cx) (r : R2) : Prop :=
  ∀ (value slice : Expr) (pins : List (Addr × Obj)) (s : Shared) (σ : St) (H : Hp) (x y : V) (v u : Value) (Q : VK), Inv X pins σ H s → RelV x v → RelV y u → r x y H Q →
    subscripted slice false v u = operate [v, u] (getItem v u) → wpAny (model X.prog X.w) X.A (subscriptTail value slice v u) (EP X pins σ Q) X.xe s
/-- a call of a builtin's method by values: the receiver, the arguments -/
def MtR (X : Cx) (id : String) (r : V → List V → Hp → VK → Prop) : Prop :=
  ∀ (pins : List (Addr × Obj)) (s : Shared) (σ : St) (H : Hp) (x : V) (xs : List V) (v : Value) (us : List Value) (Q : VK), Inv X pins σ H s → RelV x v → Vals xs us → r x xs H Q →
    wpAny (model X.prog X.w) X.A (call (.builtin id) (v :: us)) (EP X pins σ Q) X.xe s
section
variable {X : Cx} {a b : Expr} {ta tb : TE} {pos : Pos}
/-- a[b] -/
theorem pe_ix {r : R2} (hr : IxR X r) (ha : PE X a ta) (hb : PE X b tb) (hs : PlainIx b) : PE X (.Subscript a b pos) (tOp r ta tb) := by
  intro pins s σ H Q I h
  exact Subscript_ (binT ha hb I h fun v u s2 x y H2 I2 rx ry q => hr a b pins s2 σ H2 x y v u Q I2 rx ry q (hs _ _))

def rIxL (K : PySem.W.Frag) : R2 := fun x y H Q => ∃ p xs i v, x = .ref p ∧ y = .int i ∧ SqL K H p xs ∧ atI xs i = some v ∧ Q v H
def rIxT (K : PySem.W.Frag) : R2 := fun x y H Q => ∃ p xs i v, x = .ref p ∧ y = .int i ∧ SqT K H p xs ∧ atI xs i = some v ∧ Q v H
def rIxS : R2 := fun x y H Q => ∃ z i c, x = .str z ∧ y = .int i ∧ z.length ≤ sizeLine ∧ atI z.cps.toList i = some c ∧ Q (.str ⟨#[c]⟩) H
theorem ix_list : IxR X (rIxL X.K) := by
  intro value slice pins s σ H x y v u Q I rx ry h hs
  obtain ⟨p, xs, i, z, rfl, rfl, hq, he, q⟩ := h
  cases rx
  obtain ⟨t, rfl⟩ := ry
  obtain ⟨its, r, pl, hz⟩ := I.list hq
  obtain ⟨j, h1, h2, h3, h4, h5⟩ := atI_get he
  obtain ⟨w, ew, rw'⟩ := r.get h2
  have hl := r.length
  have hn := line63
  have fin : EP X pins σ Q w s := ⟨z, H, I, rw', q⟩
  by_cases h0 : 0 ≤ i
  · have hj : i.toNat = j := by
      rw [seqIndex_of h0 h5] at h1
      exact Option.some.inj h1
    exact item_listR pl.isList h0 (by omega) (by rw [hj]; simpa using ew) fin hs
  · have hj : (i + (its.toArray.size : Int)).toNat = j := by
      rw [seqIndex_neg (by omega) h4] at h1
      rw [List.size_toArray, ← hl]
      exact Option.some.inj h1
    exact subscriptTail_builtinR (x := w) pl.isList.typeIs slot_list_getitem.lookup
      (wpAny_getItem_list_neg (Q := fun r s' => r = w ∧ EP X pins σ Q r s') pl.isList (by omega) (by rw [List.size_toArray] <;> omega) (by omega) (by rw [hj]; simpa using ew) ⟨rfl, fin⟩) hs
theorem ix_tup : IxR X (rIxT X.K) := by
  intro value slice pins s σ H x y v u Q I rx ry h hs
  obtain ⟨p, xs, i, z, rfl, rfl, hq, he, q⟩ := h
  cases rx
  obtain ⟨t, rfl⟩ := ry
  obtain ⟨its, r, pl, hz⟩ := I.tuple hq
  obtain ⟨j, h1, h2, h3, h4, h5⟩ := atI_get he
  obtain ⟨w, ew, rw'⟩ := r.get h2
  have hl := r.length
  have hn := line63
  have fin : EP X pins σ Q w s := ⟨z, H, I, rw', q⟩
  exact subscriptTail_builtinR (x := w) pl.typeIs slot_tuple_getitem.lookup
    (getItem_tuple (j := j) (Q := fun r s' => r = w ∧ EP X pins σ Q r s') pl (by omega) (by omega) (by rw [List.size_toArray, ← hl]; exact h1) (by simpa using ew) ⟨rfl, fin⟩) hs
theorem ix_str : IxR X rIxS := by
  intro value slice pins s σ H x y v u Q I rx ry h hs
  obtain ⟨z, i, c, rfl, rfl, hz, he, q⟩ := h
  obtain ⟨t, rfl⟩ := rx
  obtain ⟨t', rfl⟩ := ry
  obtain ⟨j, h1, h2, h3, h4, h5⟩ := atI_get he
  have hl : z.cps.toList.length = z.length := by simp [Str.length]
  rw [hl] at h1 h4 h5
  have hn := line63
  exact tail_any (typeIs_str s z t) slot_str_getitem.lookup (getItem_str (c := c) (by
    have e1 : decide (i < -(2 ^ 63 : Int)) = false := decide_eq_false (by omega)
    have e2 : decide (i ≥ 2 ^ 63) = false := decide_eq_false (by omega)
    rw [e1, e2, Bool.or_false]) (by rw [h1]; simpa using h2) ⟨.str ⟨#[c]⟩, H, I.tok _, ⟨_, rfl⟩, q⟩) hs

/-! ### xs[i] = v, any sign -/

/-! ### slices -/
theorem slice_bounds (lo hi : Option Int) (n : Nat) : (sliceBounds lo hi none n).1 = ((HT.sIx n 0 lo : Nat) : Int) ∧ (sliceBounds lo hi none n).2.1 = ((HT.sIx n n hi : Nat) : Int) ∧ (sliceBounds lo hi none n).2.2 = 1 := by
  refine ⟨?_, ?_, rfl⟩
  · cases lo with
    | none => simp [sliceBounds, HT.sIx]
    | some i =>
      simp only [sliceBounds, HT.sIx, Option.getD_none, show (1 : Int) > 0 by decide, if_true]
      by_cases h : i < 0
      · simp only [h, if_true] <;> omega
      · simp only [h, if_false] <;> omega
  · cases hi with
    | none => simp [sliceBounds, HT.sIx]
    | some i =>
      simp only [sliceBounds, HT.sIx, Option.getD_none, show (1 : Int) > 0 by decide, if_true]
      by_cases h : i < 0
      · simp only [h, if_true] <;> omega
      · simp only [h, if_false] <;> omega
theorem slicePick_cut (its : List Value) (lo hi : Option Int) : slicePick its.toArray lo hi none = ((its.drop (HT.sIx its.length 0 lo)).take (HT.sIx its.length its.length hi - HT.sIx its.length 0 lo)).toArray := by
  obtain ⟨h1, h2, h3⟩ := slice_bounds lo hi its.toArray.size
  unfold slicePick
  rw [h1, h2, h3]
  simp only [sliceRange_one, pick_run, List.size_toArray] <;> rfl
/-- xs[lo:hi] of a list: a new list -/
def rSlL (K : PySem.W.Frag) : V → Option Int → Option Int → Hp → VK → Prop := fun x lo hi H Q => ∃ a xs, x = .ref a ∧ SqL K H a xs ∧ ∀ p, H p = none → Q (.ref p) (upd H p (.lst (cutV xs lo hi)))
theorem sl_list : SlR X (rSlL X.K) := by
  intro pins s σ H x v vl vu lo hi sl Q I rx hs pl pu h
  obtain ⟨a, xs, rfl, hx, q⟩ := h
  cases rx
  obtain ⟨its, r, ht, hz⟩ := I.list hx
  have hlen := r.length
  refine ⟨"list", _, slot_list_getitem.lookup, ht.isList.typeIs, ?_⟩
  refine wpAny_getItem_list_slice ht.isList hs pl pu .none (by simp) ?_ (by rw [List.size_toArray] <;> omega)
  rw [slicePick_cut, ← hlen]
  refine ⟨.ref s.heap.objs.size, _, I.laid (t' := s.toks) (o := .lst (cutV xs lo hi)) (fun b ob q => Heap.get?_push_of_some _ q) (Nat.le_refl _) ?_, rfl, q _ (I.hok.fresh (Nat.le_refl _))⟩
  exact ⟨Nat.le_trans (cutV_length xs lo hi) hz, _, 0, (r.drop (HT.sIx xs.length 0 lo)).take (HT.sIx xs.length xs.length hi - HT.sIx xs.length 0 lo), Heap.get?_push_size _ rfl⟩

/-! ### in, not in: flat items -/

/-! ### len, list(x), tuple(x) of any list or tuple that is read -/
theorem call_len_seq : CallR X (.builtin "len") (fun xs H Q => ∃ p ys, xs = [.ref p] ∧ (SqL X.K H p ys ∨ SqT X.K H p ys) ∧ Q (.int ys.length) H) := by
  intro pins s σ H xs us Q I r h
  obtain ⟨p, ys, rfl, hq, q⟩ := h
  obtain ⟨u, rfl, rx⟩ := vals1 r
  cases rx
  have hn := line63
  rcases hq with hq | hq
  · obtain ⟨its, r', pl, hz⟩ := I.list hq
    have hlen := r'.length
    exact Calls.call_len_list pl.isList (by simp only [List.size_toArray] <;> omega) ⟨.int ys.length, H, I.tok _, ⟨s.toks + 1, by rw [List.size_toArray, hlen]⟩, q⟩
  · obtain ⟨its, r', pl, hz⟩ := I.tuple hq
    have hlen := r'.length
    exact len_tuple pl (by simp only [List.size_toArray] <;> omega) ⟨.int ys.length, H, I.tok _, ⟨s.toks + 1, by rw [List.size_toArray, hlen]⟩, q⟩
theorem call_len_str : CallR X (.builtin "len") (fun xs H Q => ∃ z, xs = [.str z] ∧ z.length ≤ sizeLine ∧ Q (.int z.length) H) := by
  intro pins s σ H xs us Q I r h
  obtain ⟨z, rfl, hz, q⟩ := h
  obtain ⟨u, rfl, t, rfl⟩ := vals1 r
  have hn := line63
  exact len_str (by omega) ⟨.int z.length, H, I.tok _, ⟨_, rfl⟩, q⟩
theorem call_list_of : CallR X (.type "list") (fun xs H Q => ∃ p ys, xs = [.ref p] ∧ (SqL X.K H p ys ∨ SqT X.K H p ys) ∧ ∀ l, H l = none → Q (.ref l) (upd H l (.lst ys))) := by
  intro pins s σ H xs us Q I r h
  obtain ⟨p, ys, rfl, hq, q⟩ := h
  obtain ⟨u, rfl, rx⟩ := vals1 r
  cases rx
  have fin : ∀ (its : List Value), Vals ys its → ys.length ≤ sizeLine → ∀ (h' : Heap) (c' : Nat), (∀ b o', s.heap.get? b = some o' → h'.get? b = some o') →
      h'.get? s.heap.objs.size = some { cls := .type "list", dict := none, data := .seq its.toArray c', slots := #[] } → EP X pins σ Q (.ref s.heap.objs.size) { s with heap := h' } := fun its r' hz h' c' kp e =>
    ⟨.ref s.heap.objs.size, _, I.laid (t' := s.toks) kp (Nat.le_refl _) (show ObjOk X.prog X.w _ h' _ (.lst ys) from ⟨hz, its, c', r', e⟩), rfl, q _ (I.hok.fresh (Nat.le_refl _))⟩
  rcases hq with hq | hq
  · obtain ⟨its, r', pl, hz⟩ := I.list hq
    have hlen := r'.length
    obtain ⟨o, ho, hc, n, hd⟩ := pl.isList
    exact call_list_seq p (.inl rfl) ho hc hd (fun h' c' kp e => fin its r' hz h' c' kp e) (by simp only [List.size_toArray] <;> omega)
  · obtain ⟨its, r', pl, hz⟩ := I.tuple hq
    have hlen := r'.length
    obtain ⟨o, ho, hc, n, hd⟩ := pl
    exact call_list_seq p (.inr rfl) ho hc hd (fun h' c' kp e => fin its r' hz h' c' kp e) (by simp only [List.size_toArray] <;> omega)
theorem call_tuple_of : CallR X (.type "tuple") (fun xs H Q => ∃ p ys, xs = [.ref p] ∧ ((SqL X.K H p ys ∧ ∀ l, H l = none → Q (.ref l) (upd H l (.tup ys))) ∨ (SqT X.K H p ys ∧ Q (.ref p) H))) := by
  intro pins s σ H xs us Q I r h
  obtain ⟨p, ys, rfl, h⟩ := h
  obtain ⟨u, rfl, rx⟩ := vals1 r
  cases rx
  rcases h with ⟨hq, q⟩ | ⟨hq, q⟩
  · obtain ⟨its, r', pl, hz⟩ := I.list hq
    have hlen := r'.length
    refine call_tuple_list pl.isList (fun h' kp => ?_) (by simp only [List.size_toArray] <;> omega)
    have I1 : Inv X pins σ H { s with heap := h' } := I.kept (t' := s.toks) kp
    have I2 : Inv X pins σ (upd H h'.objs.size (.tup ys)) { s with heap := h'.push { cls := .type "tuple", data := .seq its.toArray } } :=
      I1.laid (t' := s.toks) (fun b o e => Heap.get?_push_of_some _ e) (Nat.le_refl _) (show ObjOk X.prog X.w _ _ _ (.tup ys) from ⟨hz, its, r', IsTup.new _ _⟩)
    exact ⟨.ref h'.objs.size, _, I2, rfl, q _ (I1.hok.fresh (Nat.le_refl _))⟩
  · obtain ⟨its, r', pl, hz⟩ := I.tuple hq
    exact call_tuple_same pl ⟨.ref p, H, I, rfl, q⟩

/-! ### the call of a builtin's method: o.m(..) -/
/-- the value is of that builtin type -/
def tyV (K : PySem.W.Frag) (T : String) (x : V) (H : Hp) : Prop := match x with
  | .str _ => T = "str"
  | .int _ => T = "int"
  | .ref p => (T = "list" ∧ ∃ xs, SqL K H p xs) ∨ (T = "tuple" ∧ ∃ o, K.lookup p = some o ∧ o.cls = .type "tuple" ∧ o.dict = none) ∨
      (T = "dict" ∧ ((∃ kvs, H p = some (.dK kvs)) ∨ ∃ kvs, H p = some (.dT kvs))) ∨ (T = "set" ∧ ∃ S n, H p = some (.set S n))
  | _ => False
theorem tyV_is {pins : List (Addr × Obj)} {σ : St} {H : Hp} {s : Shared} {T : String} {x : V} {v : Value} (I : Inv X pins σ H s) (r : RelV x v) (ty : tyV X.K T x H) :
    s.TypeIs v T ∧ ∀ a, v = .ref a → ∃ ob, s.heap.get? a = some ob ∧ ob.dict = none := by
  cases x with
  | str z =>
    obtain ⟨t, rfl⟩ := r
    cases (show T = "str" from ty)
    exact ⟨typeIs_str s z t, fun _ e => nomatch e⟩
  | int i =>
    obtain ⟨t, rfl⟩ := r
    cases (show T = "int" from ty)
    exact ⟨typeIs_int s i t, fun _ e => nomatch e⟩
  | ref p =>
    cases r
    rcases ty with ⟨rfl, xs, hq⟩ | ⟨rfl, o, hk, hc, hd⟩ | ⟨rfl, hk⟩ | ⟨rfl, S, n, hk⟩
    · obtain ⟨its, _, pl, _⟩ := I.list hq
      refine ⟨pl.isList.typeIs, fun a e => ?_⟩
      cases e
      obtain ⟨o, n, e, c, hd, _⟩ := pl
      exact ⟨o, e, hd⟩
    · refine ⟨⟨o, I.kIn p o hk, hc⟩, fun a e => ?_⟩
      cases e
      exact ⟨o, I.kIn _ o hk, hd⟩
    · have z : ∃ o, s.heap.get? p = some o ∧ o.ExactDict := by
        rcases hk with ⟨kvs, hk⟩ | ⟨kvs, hk⟩
        · obtain ⟨_, _, _, _, o, _, _, e, ex, _⟩ := I.hok p _ hk
          exact ⟨o, e, ex⟩
        · obtain ⟨_, _, _, _, o, _, _, e, ex, _⟩ := I.hok p _ hk
          exact ⟨o, e, ex⟩
      obtain ⟨o, e, ex⟩ := z
      refine ⟨⟨o, e, ex.1⟩, fun a e2 => ?_⟩
      cases e2
      exact ⟨o, e, ex.2.1⟩
    · obtain ⟨o, _, _, _, e, ex, _⟩ := I.hok p _ hk
      refine ⟨⟨o, e, ex.1⟩, fun a e2 => ?_⟩
      cases e2
      exact ⟨o, e, ex.2.1⟩
  | _ => exact False.elim ty
def tBM0 (K : PySem.W.Frag) (T : String) (r : V → List V → Hp → VK → Prop) (to : TE) : TE := fun σ H Q => to σ H fun x H1 => tyV K T x H1 ∧ r x [] H1 Q
def tBM (K : PySem.W.Frag) (T : String) (r : V → List V → Hp → VK → Prop) (to : TE) (t : TA) : TE := fun σ H Q => to σ H fun x H1 => tyV K T x H1 ∧ t σ H1 fun xs H2 => r x xs H2 Q
variable {o e : Expr} {es : List Expr} {to : TE} {t : TA} {name : Str} {apos cpos : Pos} {T id : String} {r : V → List V → Hp → VK → Prop}
theorem pe_bm0 (pa : PlainAttrs T) (slot : Slot T name id) (hty : typeOf (.builtin id) = pure (.type "method_descriptor")) (hm : MtR X id r) (ho : PE X o to)
    (hbase : attributeBase o name X.env (eval o X.env) = eval o X.env := by rfl) (hline : (apos.endLine == cpos.line) = true := by rfl) : PE X (.Call (.Attribute o name apos) [] [] cpos) (tBM0 X.K T r to) := by
  intro pins s σ H Q I h
  refine wpAny_Call_method0_late hbase hline (thn (ho pins s σ H _ I h) fun v s1 ⟨x, H1, I1, r1, ty, q1⟩ => ?_)
  obtain ⟨h1, h2⟩ := tyV_is I1 r1 ty
  exact ⟨T, id, pa, slot, hty, h1, h2, Calls.callWith_builtin rfl (PySem.evalArgs_none (hm pins s1 σ H1 x [] v [] Q I1 r1 .nil q1))⟩
theorem pe_bm (pa : PlainAttrs T) (slot : Slot T name id) (hty : typeOf (.builtin id) = pure (.type "method_descriptor")) (hm : MtR X id r) (ho : PE X o to) (ha : PA X (e :: es) t)
    (hbase : attributeBase o name X.env (eval o X.env) = eval o X.env := by rfl)
    (hfew : ((backTo cpos (starEach (e :: es) X.env)).all (fun x => !x.1) && (backToKw cpos (keywordEach [] X.env)).all (fun x => x.1.isSome)
      && decide ((e :: es).length + ([] : List Keyword).length + (if ([] : List Keyword).isEmpty then 0 else 1) < 30)) = true := by rfl)
    (hline : (apos.endLine == cpos.line) = true := by rfl) (hs : starEach (e :: es) X.env = (false, eval e X.env) :: starEach es X.env := by rfl) (hplain : (backTo cpos (starEach es X.env)).any (·.1) = false := by rfl) :
    PE X (.Call (.Attribute o name apos) (e :: es) [] cpos) (tBM X.K T r to t) := by
  intro pins s σ H Q I h
  refine wpAny_Call_method_late hbase hfew hline rfl (thn (ho pins s σ H _ I h) fun v s1 ⟨x, H1, I1, r1, ty, q1⟩ => ?_)
  obtain ⟨h1, h2⟩ := tyV_is I1 r1 ty
  refine ⟨T, id, pa, slot, hty, h1, h2, ?_⟩
  have hA := ha cpos pins s1 σ H1 _ I1 q1
  rw [hs] at hA ⊢
  refine Calls.callWith_builtin (by show (false || (backTo cpos (starEach es X.env)).any (·.1)) = false; rw [hplain] <;> rfl) (Calls.evalArgs_plain ?_)
  exact thn hA fun us s2 ⟨vs, H2, I2, r2, q2⟩ => hm pins s2 σ H2 x vs v us Q I2 r1 r2 q2
/- xs.append(e), list.index on a module's tuple .. are MtR facts of 06m -/
end
end L2

namespace L2
open PySem PySem.Spec PyProof.Rows

def MtM (X : Cx) (id : String) (r : V → List V → Hp → VK → Prop) : Prop :=
  ∀ (pins : List (Addr × Obj)) (s : Shared) (σ : St) (H : Hp) (x : V) (xs : List V) (v : Value) (us : List Value) (Q : VK), Inv X pins σ H s → RelV x v → Vals xs us → r x xs H Q →
    wpAny (model X.prog X.w) X.A (call (.builtin id) (v :: us)) (EP X pins σ Q) X.xe s

/-! ### lists of values -/
theorem Vals.one : ∀ {x : V} {us : List Value}, Vals [x] us → ∃ u, us = [u] ∧ RelV x u
  | _, _, .cons r .nil => ⟨_, rfl, r⟩
theorem Vals.eraseIdx : ∀ {xs : List V} {us : List Value} (i : Nat), Vals xs us → Vals (xs.eraseIdx i) (us.eraseIdx i)
  | _, _, _, .nil => .nil
  | _, _, 0, .cons _ t => t
  | _, _, i + 1, .cons r t => .cons r (Vals.eraseIdx i t)
theorem Vals.reverse {xs : List V} {us : List Value} (h : Vals xs us) : Vals xs.reverse us.reverse := by
  induction h with
  | nil => exact .nil
  | cons r t ih => rw [List.reverse_cons, List.reverse_cons]; exact Vals.append ih (.cons r .nil)
theorem Vals.rep {xs : List V} {us : List Value} (h : Vals xs us) : ∀ k : Nat, Vals (List.replicate k xs).flatten (List.replicate k us).flatten
  | 0 => .nil
  | k + 1 => by
    rw [List.replicate_succ, List.replicate_succ, List.flatten_cons, List.flatten_cons]
    exact Vals.append h (Vals.rep h k)
theorem len_erase {α : Type} : ∀ (l : List α) (i : Nat), (l.eraseIdx i).length ≤ l.length
  | [], _ => Nat.le_refl _
  | _ :: _, 0 => Nat.le_succ _
  | _ :: r, i + 1 => Nat.succ_le_succ (len_erase r i)
theorem foldl_rep (its : List Value) : ∀ (k : Nat) (acc : List Value),
    List.foldl (fun x1 x2 => x1 ++ x2) acc.toArray (List.replicate k its.toArray) = (acc ++ (List.replicate k its).flatten).toArray
  | 0, acc => by simp
  | k + 1, acc => by
    have e : acc.toArray ++ its.toArray = (acc ++ its).toArray := by simp
    have e2 : (acc ++ its) ++ (List.replicate k its).flatten = acc ++ (List.replicate (k + 1) its).flatten := by
      rw [List.replicate_succ, List.flatten_cons, List.append_assoc]
    rw [← e2, ← foldl_rep its k (acc ++ its), ← e, List.replicate_succ, List.foldl_cons]

section
variable {X : Cx} {pins : List (Addr × Obj)} {σ : St} {H : Hp} {s : Shared} {l b : Addr} {xs ys zs : List V}

/-! ### the two steps: a tracked list is rewritten, a new list is laid -/
theorem Inv.lset {its its' : List Value} {n : Nat} {f : Array Value → Array Value} {t' : Nat} (I : Inv X pins σ H s) (hH : H l = some (.lst xs))
    (e : s.heap.get? l = some { cls := .type "list", data := .seq its.toArray n }) (hf : f its.toArray = its'.toArray) (hv : Vals ys its') (hz : ys.length ≤ sizeLine) :
    Inv X pins σ (upd H l (.lst ys)) { s with heap := s.heap.update l (Obj.mapSeq f), toks := t' } := by
  have q := PySem.IsL.update e f
  rw [hf] at q
  refine I.write (x := l) (e := l) (by rw [hH]; exact trivial) (.inl rfl) (fun b' u hb hu => (Heap.get?_update_other s.heap (Obj.mapSeq f) (Ne.symm hb)).trans hu) ⟨_, q⟩ ?_
  exact ⟨hz, its', _, hv, q⟩
theorem Inv.lnew {its : List Value} {t' : Nat} (I : Inv X pins σ H s) (hv : Vals ys its) (hz : ys.length ≤ sizeLine) :
    Inv X pins σ (upd H s.heap.objs.size (.lst ys)) { s with heap := s.heap.push { cls := .type "list", data := .seq its.toArray }, toks := t' } :=
  I.laid (fun _ _ q => Heap.get?_push_of_some _ q) (Nat.le_refl _) ⟨hz, its, 0, hv, Heap.get?_push_size _ rfl⟩
theorem Inv.fresh (I : Inv X pins σ H s) : H s.heap.objs.size = none := I.hok.fresh (Nat.le_refl _)
theorem Inv.lstM (I : Inv X pins σ H s) (hH : H l = some (.lst xs)) : xs.length ≤ sizeLine ∧ ∃ (its : List Value) (n : Nat), Vals xs its ∧ xs.length = its.length ∧ s.heap.get? l = some { cls := .type "list", data := .seq its.toArray n } := by
  obtain ⟨z, its, n, r, e⟩ := I.hok l _ hH
  exact ⟨z, its, n, r, r.length, e⟩

theorem notLongL {n : Nat} (h : n ≤ sizeLine) : Builtin.List.listTooLong n = false := by
  unfold Builtin.List.listTooLong
  exact decide_eq_false (by omega)
end

section
variable {X : Cx}

/-! ### methods -/
def rAppend : V → List V → Hp → VK → Prop := fun x vs H Q => ∃ l xs y, x = .ref l ∧ vs = [y] ∧ H l = some (.lst xs) ∧ xs.length < sizeLine ∧ Q .non (upd H l (.lst (xs ++ [y])))
theorem mt_append : MtM X "list.append" rAppend := by
  intro pins s σ H x vs v us Q I rx rv h
  obtain ⟨l, xs, y, rfl, rfl, hH, hz, q⟩ := h
  cases rx
  obtain ⟨u, rfl, ru⟩ := rv.one
  obtain ⟨z, its, n, r, hl, e⟩ := I.lstM hH
  refine call_meets F.slot_list_append ⟨_, e, rfl⟩ F.entry_list_append (F.args_list_append_2 _ _) (PySem.list_append l its.toArray n u (by rw [List.size_toArray]; omega)) ⟨e, ?_⟩
  refine ⟨.non, _, I.lset (its' := its ++ [u]) hH e (by simp) (r.append (.cons ru .nil)) ?_, rfl, q⟩
  rw [List.length_append, List.length_singleton]
  omega



def rPopAt : V → List V → Hp → VK → Prop := fun x vs H Q => ∃ l xs i k y, x = .ref l ∧ vs = [.int i] ∧ H l = some (.lst xs) ∧ -(2 ^ 63) ≤ i ∧ i < 2 ^ 63 ∧ seqIndex? i xs.length = some k ∧ xs[k]? = some y ∧ Q y (upd H l (.lst (xs.eraseIdx k)))
theorem mt_popAt : MtM X "list.pop" rPopAt := by
  intro pins s σ H x vs v us Q I rx rv h
  obtain ⟨l, xs, i, k, y, rfl, rfl, hH, h1, h2, hk, hy, q⟩ := h
  cases rx
  obtain ⟨u, rfl, ru⟩ := rv.one
  obtain ⟨t, rfl⟩ := ru
  obtain ⟨z, its, n, r, hl, e⟩ := I.lstM hH
  obtain ⟨w, hw, rw'⟩ := r.get hy
  refine call_meets F.slot_list_pop ⟨_, e, rfl⟩ F.entry_list_pop (F.args_list_pop_2 _ _)
    (MeetsSeq.list_pop_at l its.toArray n i t k w (fitsIndex_both h1 h2) (by rw [List.size_toArray, ← hl]; exact hk) (by rw [← Array.getElem?_toList]; exact hw) (by rw [List.size_toArray]; omega)) ⟨e, ?_⟩
  refine ⟨y, _, I.lset (its' := its.eraseIdx k) hH e ?_ (r.eraseIdx k) ?_, rw', q⟩
  · show its.toArray.eraseIdxIfInBounds k = (its.eraseIdx k).toArray
    rw [List.eraseIdxIfInBounds_toArray]
  · have := len_erase xs k
    omega



/-! ### list + list, list += list, list * int -/
def rCat : R2 := fun x y H Q => ∃ l b xs zs, x = .ref l ∧ y = .ref b ∧ H l = some (.lst xs) ∧ H b = some (.lst zs) ∧ xs.length + zs.length ≤ sizeLine ∧ ∀ p, H p = none → Q (.ref p) (upd H p (.lst (xs ++ zs)))
theorem op_cat : OpR X (binaryOp .Add) rCat := by
  intro pins s σ H x y v u Q I rx ry h
  obtain ⟨l, b, xs, zs, rfl, rfl, hH, hB, hz, q⟩ := h
  cases rx
  cases ry
  obtain ⟨z, its, n, r, hl, e⟩ := I.lstM hH
  obtain ⟨z2, its2, n2, r2, hl2, e2⟩ := I.lstM hB
  refine PySem.P.add_list e e2 ?_ (by rw [List.size_toArray, List.size_toArray]; omega)
  have ea : its.toArray ++ its2.toArray = (its ++ its2).toArray := by simp
  rw [ea]
  exact ⟨.ref _, _, I.lnew (t' := s.toks) (r.append r2) (by rw [List.length_append]; omega), rfl, q _ I.fresh⟩
/-- a list times an int (a negative one is nothing) -/
def rRep : R2 := fun x y H Q => ∃ l k xs, x = .ref l ∧ y = .int k ∧ H l = some (.lst xs) ∧ -(2 ^ 63) ≤ k ∧ k < 2 ^ 63 ∧ xs.length * k.toNat ≤ sizeLine ∧
  ∀ p, H p = none → Q (.ref p) (upd H p (.lst (List.replicate k.toNat xs).flatten))
theorem len_rep {α : Type} (xs : List α) (k : Nat) : (List.replicate k xs).flatten.length = k * xs.length := by
  induction k with
  | zero => simp
  | succ k ih => rw [List.replicate_succ, List.flatten_cons, List.length_append, ih, Nat.succ_mul, Nat.add_comm]
theorem op_rep : OpR X (binaryOp .Mult) rRep := by
  intro pins s σ H x y v u Q I rx ry h
  obtain ⟨l, k, xs, rfl, rfl, hH, h1, h2, hz, q⟩ := h
  cases rx
  obtain ⟨t, rfl⟩ := ry
  obtain ⟨z, its, n, r, hl, e⟩ := I.lstM hH
  have hlen : its.toArray.size * k.toNat ≤ sizeLine := by rw [List.size_toArray, ← hl]; exact hz
  have hcap : ¬ its.toArray.size * k.toNat > (2 ^ 63 - 1) / 8 := by
    have : (sizeLine : Nat) ≤ (2 ^ 63 - 1) / 8 := by decide
    omega
  have hfit : ¬ (!Builtin.List.listFitsIndex k) = true := by
    rw [fitsIndex_both h1 h2]
    exact Bool.false_ne_true
  have hlong : ¬ Builtin.List.listTooLong (its.toArray.size * k.toNat) = true := by
    rw [notLongL hlen]
    exact Bool.false_ne_true
  have hnew : List.foldl (fun x1 x2 => x1 ++ x2) #[] (List.replicate (if its.toArray.isEmpty = true then 0 else k.toNat) its.toArray) = (List.replicate k.toNat its).flatten.toArray := by
    have f0 : ∀ m : Nat, List.foldl (fun x1 x2 => x1 ++ x2) #[] (List.replicate m its.toArray) = (List.replicate m its).flatten.toArray := fun m => by
      have := foldl_rep its m []
      rw [List.nil_append] at this
      exact this
    rw [f0]
    cases its with
    | nil => simp
    | cons a r' => rw [if_neg (by simp)]
  refine wpAny_binaryOp_repeat_ref (T := "list") (U := "int") (by decide) ⟨_, e, rfl⟩ (fun s' => typeIs_int s' k t) noFill_list_mul F.fills_int_mul F.slot_int_rmul repeat_list F.slot_int_index.lookup
    (call_meets F.slot_int_rmul (typeIs_int s k t) F.entry_int_rmul (F.args_int_rmul_2 _ _) (int___rmul___int_list k t l its.toArray n)
      ⟨e, rfl, ⟨_, e, rfl⟩, call_meets F.slot_list_mul ⟨_, e, rfl⟩ F.entry_list_mul (F.args_list_mul_2 _ _) (AutoListH.list___mul___list_int_3 l its.toArray n k t hfit hcap hlong) ⟨e, ?_⟩⟩)
  rw [hnew]
  exact ⟨.ref _, _, I.lnew (t' := s.toks) (r.rep k.toNat) (by rw [len_rep, Nat.mul_comm]; exact hz), rfl, q _ I.fresh⟩

/-! ### del xs[i] -/
end

/-! ### xs[a:b] = ys -/
section
variable {prog : Program} {w : World} {A : Around} {E : Value → Shared → Prop} {s : Shared}
end

section
variable {X : Cx}
end
end L2

namespace L2
open PySem PySem.Spec PyProof.Rows

/-! ### lists of pairs as tables -/
section
variable {κ : Type} [DecidableEq κ]
def valV (kvs : List (κ × V)) (k : κ) : Option V := (kvs.find? fun kv => decide (kv.1 = k)).map (·.2)
/-- in its place, or at the end -/
def putK (kvs : List (κ × V)) (k : κ) (v : V) : List (κ × V) :=
  if (kvs.any fun kv => decide (kv.1 = k)) = true then kvs.map (fun kv => if kv.1 = k then (kv.1, v) else kv) else kvs ++ [(k, v)]

theorem valV_pos {p : κ × V} {r : List (κ × V)} {k : κ} (e : p.1 = k) : valV (p :: r) k = some p.2 := by simp [valV, List.find?_cons, e]
theorem valV_neg {p : κ × V} {r : List (κ × V)} {k : κ} (e : ¬ p.1 = k) : valV (p :: r) k = valV r k := by simp [valV, List.find?_cons, e]
theorem valV_any (k : κ) : ∀ kvs : List (κ × V), (kvs.any fun kv => decide (kv.1 = k)) = (valV kvs k).isSome
  | [] => rfl
  | p :: r => by
    rw [List.any_cons]
    by_cases e : p.1 = k
    · simp only [valV_pos e, decide_eq_true e, Bool.true_or, Option.isSome_some]
    · rw [valV_neg e, decide_eq_false e, Bool.false_or]; exact valV_any k r
theorem length_putK (kvs : List (κ × V)) (k : κ) (v : V) : (putK kvs k v).length ≤ kvs.length + 1 := by
  unfold putK
  split
  · rw [List.length_map]; omega
  · rw [List.length_append, List.length_cons, List.length_nil]; omega
theorem putK_new {kvs : List (κ × V)} {k : κ} (v : V) (h : valV kvs k = none) : putK kvs k v = kvs ++ [(k, v)] := by
  unfold putK
  rw [valV_any, h]
  exact if_neg (by decide)

theorem RelO.isSome_eq {o : Option V} {u : Option Value} (r : RelO o u) : o.isSome = u.isSome := by
  cases o with
  | none => cases u with
    | none => rfl
    | some _ => exact (show False from r).elim
  | some _ => cases u with
    | none => exact (show False from r).elim
    | some _ => rfl

/-- raw tables of the same keys -/
theorem KV.val {kvs : List (κ × V)} {vs : List (κ × Value)} (r : KV kvs vs) (k : κ) : RelO (valV kvs k) (valueAt vs k) := by
  unfold KV at r
  induction r with
  | nil => exact True.intro
  | @cons p q ps qs h t ih =>
    obtain ⟨h1, h2⟩ := h
    by_cases e : p.1 = k
    · have e' : q.1 = k := h1.symm.trans e
      have b : valueAt (q :: qs) k = some q.2 := by simp [valueAt, List.find?_cons, e']
      rw [valV_pos e, b]; exact h2
    · have e' : ¬ q.1 = k := fun z => e (h1.trans z)
      have b : valueAt (q :: qs) k = valueAt qs k := by simp [valueAt, List.find?_cons, e']
      rw [valV_neg e, b]; exact ih
theorem KV.any {kvs : List (κ × V)} {vs : List (κ × Value)} (r : KV kvs vs) (k : κ) : (kvs.any fun kv => decide (kv.1 = k)) = vs.any fun kv => decide (kv.1 = k) := by
  unfold KV at r
  induction r with
  | nil => rfl
  | cons h t ih => rw [List.any_cons, List.any_cons, ih, h.1]
theorem KV.repl {kvs : List (κ × V)} {vs : List (κ × Value)} (r : KV kvs vs) (k : κ) {y : V} {u : Value} (ry : RelV y u) :
    KV (kvs.map fun kv => if kv.1 = k then (kv.1, y) else kv) (vs.map fun kv => if kv.1 = k then (kv.1, u) else kv) := by
  unfold KV at r ⊢
  induction r with
  | nil => exact .nil
  | @cons p q ps qs h t ih =>
    rw [List.map_cons, List.map_cons]
    refine .cons ?_ ih
    obtain ⟨h1, h2⟩ := h
    by_cases e : p.1 = k
    · rw [if_pos e, if_pos (h1.symm.trans e)]; exact ⟨h1, ry⟩
    · rw [if_neg e, if_neg (fun z => e (h1.trans z))]; exact ⟨h1, h2⟩
theorem KV.put {kvs : List (κ × V)} {vs : List (κ × Value)} (r : KV kvs vs) (k : κ) {y : V} {u : Value} (ry : RelV y u) : KV (putK kvs k y) (stored vs k u) := by
  unfold putK stored
  rw [r.any k]
  by_cases e : (vs.any fun kv => decide (kv.1 = k)) = true
  · rw [if_pos e, if_pos e]; exact r.repl k ry
  · rw [if_neg e, if_neg e]; exact Paired.snoc r ⟨rfl, ry⟩
theorem KV.length {kvs : List (κ × V)} {vs : List (κ × Value)} (r : KV kvs vs) : kvs.length = vs.length := Paired.length r
end


/-! ### a tracked dict, its keys ints and texts or tuples of these -/
theorem kV_is {P : Program} {w : World} {k : Key} {u : Value} (r : RelV (kV k) u) : (mixKind P w).is k u = true := by
  cases k with
  | inl i => obtain ⟨t, e⟩ := (show ∃ t, u = Value.int i t from r); subst e; exact mixKind_int P w i t
  | inr x => obtain ⟨t, e⟩ := (show ∃ t, u = Value.str x t from r); subst e; exact mixKind_str P w x t
theorem items_are {P : Program} {w : World} : ∀ {ks : List Key} {us : List Value}, Vals (ks.map kV) us → ItemsAre (mixKind P w) ks us
  | [], _, r => by rw [List.map_nil] at r; cases r; exact .nil
  | k :: ks, _, r => by
    rw [List.map_cons] at r
    cases r with
    | cons h t => exact .cons (kV_is h) (items_are t)

/-- raw entries of a dict with tuple keys -/
abbrev KT (H : Hp) : List (List Key × V) → List (List Key × Addr × Value) → Prop := Paired fun p q => p.1 = q.1 ∧ H q.2.1 = some (.tup (p.1.map kV)) ∧ RelV p.2 q.2.2
theorem KT.val {H : Hp} {kvs : List (List Key × V)} {xs : List (List Key × Addr × Value)} (r : KT H kvs xs) (k : List Key) : RelO (valV kvs k) ((atKey xs k).map (·.2)) := by
  induction r with
  | nil => exact True.intro
  | @cons p q ps qs h t ih =>
    obtain ⟨h1, _, h2⟩ := h
    by_cases e : p.1 = k
    · have e' : q.1 = k := h1.symm.trans e
      have b : atKey (q :: qs) k = some q.2 := by simp [atKey, List.find?_cons, e']
      rw [valV_pos e, b]; exact h2
    · have e' : ¬ q.1 = k := fun z => e (h1.trans z)
      have b : atKey (q :: qs) k = atKey qs k := by simp [atKey, List.find?_cons, e']
      rw [valV_neg e, b]; exact ih
theorem KT.repl {H : Hp} {kvs : List (List Key × V)} {xs : List (List Key × Addr × Value)} (r : KT H kvs xs) (k : List Key) {y : V} {u : Value} (ry : RelV y u) :
    KT H (kvs.map fun kv => if kv.1 = k then (kv.1, y) else kv) (xs.map (putAt k u)) := by
  induction r with
  | nil => exact .nil
  | @cons p q ps qs h t ih =>
    rw [List.map_cons, List.map_cons]
    refine .cons ?_ ih
    obtain ⟨h1, h2, h3⟩ := h
    unfold putAt
    by_cases e : p.1 = k
    · rw [if_pos e, if_pos (h1.symm.trans e)]; exact ⟨h1, h2, ry⟩
    · rw [if_neg e, if_neg (fun z => e (h1.trans z))]; exact ⟨h1, h2, h3⟩
theorem KT.put {H : Hp} {kvs : List (List Key × V)} {xs : List (List Key × Addr × Value)} (r : KT H kvs xs) (k : List Key) {b : Addr} {y : V} {u : Value} (hb : H b = some (.tup (k.map kV))) (ry : RelV y u) :
    KT H (putK kvs k y) (storedH xs k b u) := by
  have e : (kvs.any fun kv => decide (kv.1 = k)) = (atKey xs k).isSome := by
    rw [valV_any, (r.val k).isSome_eq, Option.isSome_map]
  unfold putK storedH
  rw [e]
  by_cases q : (atKey xs k).isSome = true
  · rw [if_pos q, if_pos q]; exact r.repl k ry
  · rw [if_neg q, if_neg q]; exact Paired.snoc r ⟨rfl, hb, ry⟩
theorem KT.keeps {H H' : Hp} {kvs : List (List Key × V)} {xs : List (List Key × Addr × Value)} (r : KT H kvs xs) (ht : ∀ b ys, H b = some (.tup ys) → H' b = some (.tup ys)) : KT H' kvs xs :=
  Paired.mapP r fun _ _ z => ⟨z.1, ht _ _ z.2.1, z.2.2⟩

section
variable {P : Program} {w : World} {H : Hp} {h : Heap} {a : Addr}
theorem rd_of {u : HO} (ok : HOk P w H h) (e : Rd H a u) : ObjOk P w H h a u := e.ok ok
theorem dk_rd {kvs : List (Key × V)} (ok : HOk P w H h) (e : Rd H a (.dK kvs)) : kvs.length ≤ sizeLine ∧ (a == sysModules) = false ∧ ∃ vs, KV kvs vs ∧ h.DictOf (mixKind P w) a vs :=
  show ObjOk P w H h a (.dK kvs) from rd_of ok e
theorem dk_of {kvs : List (Key × V)} (ok : HOk P w H h) (e : H a = some (.dK kvs)) : kvs.length ≤ sizeLine ∧ (a == sysModules) = false ∧ ∃ vs, KV kvs vs ∧ h.DictOf (mixKind P w) a vs := dk_rd ok (.inl e)
/-- a tracked tuple of ints and texts is a key -/
theorem key_of {ks : List Key} (ok : HOk P w H h) (e : H a = some (.tup (ks.map kV))) : (tupleKind (mixKind P w)).is h ks a := by
  obtain ⟨_, its, r, o, h1, h2, n, h3⟩ := (show ObjOk P w H h a (.tup (ks.map kV)) from ok a _ e)
  exact ⟨o, its.toArray, n, h1, h2, h3, by simpa using items_are r⟩
theorem dt_rd {kvs : List (List Key × V)} (ok : HOk P w H h) (e : Rd H a (.dT kvs)) : kvs.length ≤ sizeLine ∧ (a == sysModules) = false ∧
    ∃ xs, KT H kvs xs ∧ h.DictOfH (tupleKind (mixKind P w)) a xs := by
  obtain ⟨z, y, xs, r, o, es, ep, h1, h2, h3, h4, h5⟩ := (show ObjOk P w H h a (.dT kvs) from rd_of ok e)
  refine ⟨z, y, xs, r, o, es, ep, h1, h2, h3, h4, fun x hx => ?_, h5⟩
  have all : ∀ {l : List (List Key × V)} {m : List (List Key × Addr × Value)}, KT H l m → ∀ x ∈ m, (tupleKind (mixKind P w)).is h x.1 x.2.1 := by
    intro l m q
    induction q with
    | nil => intro x hx; exact nomatch hx
    | @cons p q ps qs hq t ih =>
      intro x hx
      rcases List.mem_cons.mp hx with e | hx
      · subst e
        exact key_of ok (by rw [← hq.1]; exact hq.2.1)
      · exact ih x hx
  exact all r x hx
theorem dt_of {kvs : List (List Key × V)} (ok : HOk P w H h) (e : H a = some (.dT kvs)) : kvs.length ≤ sizeLine ∧ (a == sysModules) = false ∧
    ∃ xs, KT H kvs xs ∧ h.DictOfH (tupleKind (mixKind P w)) a xs := dt_rd ok (.inl e)
end

/-- what the dict at a holds at the key y -/
def DGet (H : Hp) (a : Addr) (y : V) (r : Option V) : Prop :=
  (∃ kvs k, Rd H a (.dK kvs) ∧ y = kV k ∧ r = valV kvs k) ∨ ∃ kvs k b, Rd H a (.dT kvs) ∧ y = .ref b ∧ H b = some (.tup (k.map kV)) ∧ r = valV kvs k
/-- the heap behind a[y] = v -/
def DPut (H : Hp) (a : Addr) (y v : V) (H' : Hp) : Prop :=
  (∃ kvs k, H a = some (.dK kvs) ∧ y = kV k ∧ kvs.length < sizeLine ∧ H' = upd H a (.dK (putK kvs k v))) ∨
  ∃ kvs k b, H a = some (.dT kvs) ∧ y = .ref b ∧ H b = some (.tup (k.map kV)) ∧ kvs.length < sizeLine ∧ H' = upd H a (.dT (putK kvs k v))
theorem DGet.k {H : Hp} {a : Addr} {kvs : List (Key × V)} {k : Key} (e : H a = some (.dK kvs)) : DGet H a (kV k) (valV kvs k) := .inl ⟨kvs, k, .inl e, rfl, rfl⟩
theorem DPut.k {H : Hp} {a : Addr} {kvs : List (Key × V)} {k : Key} {v : V} (e : H a = some (.dK kvs)) (hl : kvs.length < sizeLine) : DPut H a (kV k) v (upd H a (.dK (putK kvs k v))) := .inl ⟨kvs, k, e, rfl, hl, rfl⟩


section
variable {X : Cx} {pins : List (Addr × Obj)} {σ : St} {H : Hp} {s : Shared} {a : Addr} {y v : V} {u r : Value} {o : Option V} {A : Around} {E : Value → Shared → Prop}

theorem Inv.big (I : Inv X pins σ H s) : sysModules < s.heap.objs.size := by
  have h : mainGlobals < s.heap.objs.size := (I.mod.glob.keeps I.bk).lt
  exact Nat.lt_trans (by decide) h

/-- d[y], there -/
theorem d_getItem {Q : Value → Shared → Prop} (hu : A.units + 1 < cLine) (I : Inv X pins σ H s) (g : DGet H a y (some v)) (ry : RelV y u) (h : ∀ w' s', Inv X pins σ H s' → RelV v w' → Q w' s') :
    wpAny (model X.prog X.w) A (getItem (.ref a) u) Q E s := by
  rcases g with ⟨kvs, k, e, ey, l⟩ | ⟨kvs, k, b, e, ey, eb, l⟩
  · subst ey
    obtain ⟨z, hd, vs, rel, dd⟩ := dk_rd I.hok e
    obtain ⟨w', hw, rw'⟩ := RelO.some_of (v := v) (o := valueAt vs k) (by rw [l]; exact rel.val k)
    exact wpAny_getItem_of (kV_is ry) dd.mapOf hw (h w' _ (I.tok _) rw')
  · subst ey
    cases (show u = Value.ref b from ry)
    obtain ⟨z, hd, xs, rel, dd⟩ := dt_rd I.hok e
    obtain ⟨w', hw, rw'⟩ := RelO.some_of (v := v) (o := (atKey xs k).map (·.2)) (by rw [l]; exact rel.val k)
    obtain ⟨p, hp, hp2⟩ := Option.map_eq_some_iff.mp hw
    refine wpAny_getItem_heap (tupleKind_room_in1 hu) (key_of I.hok eb) dd hp ?_
    rw [hp2]
    exact h w' _ (I.tok _) rw'
theorem d_notIn {Q : Value → Shared → Prop} (hu : A.units + 1 < cLine) (I : Inv X pins σ H s) (g : DGet H a y o) (ry : RelV y u) (h : ∀ s', Inv X pins σ H s' → Q (.bool (!o.isSome)) s') :
    wpAny (model X.prog X.w) A (compareOp .NotIn u (.ref a)) Q E s := by
  rcases g with ⟨kvs, k, e, ey, l⟩ | ⟨kvs, k, b, e, ey, eb, l⟩
  · subst ey
    obtain ⟨z, hd, vs, rel, dd⟩ := dk_rd I.hok e
    refine wpAny_notIn_of (kV_is ry) hd dd.mapOf ?_
    rw [← (rel.val k).isSome_eq, ← l]
    exact h _ (I.tok _)
  · subst ey
    cases (show u = Value.ref b from ry)
    obtain ⟨z, hd, xs, rel, dd⟩ := dt_rd I.hok e
    refine wpAny_notIn_heap (tupleKind_room_in1 hu) (key_of I.hok eb) hd dd ?_
    have q := (rel.val k).isSome_eq
    rw [Option.isSome_map] at q
    rw [← q, ← l]
    exact h _ (I.tok _)
/-- a dict's object is replaced -/
theorem d_write {h' : Heap} {t' : Nat} {ob : HO} (I : Inv X pins σ H s) (mu : Mut (H a)) (hs : Heap.SameBut a s.heap h') (he : ∃ q, h'.get? a = some q) (new : ObjOk X.prog X.w (upd H a ob) h' a ob) :
    Inv X pins σ (upd H a ob) { s with heap := h', toks := t' } :=
  I.write (x := a) (e := a) mu (.inl rfl) (fun b q hb z => (hs.2 b hb).trans z) he new
theorem dk_new {P : Program} {w : World} {H' : Hp} {h' : Heap} {kvs : List (Key × V)} {vs : List (Key × Value)} (z : kvs.length ≤ sizeLine) (hd : (a == sysModules) = false) (rel : KV kvs vs) (dd : h'.DictOf (mixKind P w) a vs) :
    ObjOk P w H' h' a (.dK kvs) := ⟨z, hd, vs, rel, dd⟩
/-- d[y] = v -/
theorem d_setItem {H' : Hp} {Q : Unit → Shared → Prop} (hu : A.units + 1 < cLine) (I : Inv X pins σ H s) (g : DPut H a y v H') (ry : RelV y u) (rv : RelV v r) (h : ∀ s', Inv X pins σ H' s' → Q () s') :
    wpAny (model X.prog X.w) A (setItem (.ref a) u r) Q E s := by
  rcases g with ⟨kvs, k, e, ey, l, eH⟩ | ⟨kvs, k, b, e, ey, eb, l, eH⟩
  · subst ey eH
    obtain ⟨z, hd, vs, rel, dd⟩ := dk_of I.hok e
    have hz : vs.length ≤ sizeLine := by rw [← rel.length]; exact z
    have hl : (putK kvs k v).length ≤ sizeLine := by have := length_putK kvs k v; omega
    refine wpAny_setItem_pairs (hsz := hz) (kV_is ry) dd fun h' dd' hs => h _ ?_
    have he : ∃ q, h'.get? a = some q := let ⟨q, _, _, hq, _⟩ := dd'; ⟨q, hq⟩
    exact d_write I (by rw [e]; exact True.intro) hs he (dk_new hl hd (rel.put k rv) dd')
  · subst ey eH
    cases (show u = Value.ref b from ry)
    obtain ⟨z, hd, xs, rel, dd⟩ := dt_of I.hok e
    have hz : xs.length ≤ sizeLine := by rw [← Paired.length rel]; exact z
    have hl : (putK kvs k v).length ≤ sizeLine := by have := length_putK kvs k v; omega
    refine wpAny_setItem_heap (hsz := hz) (tupleKind_room_in1 hu) (key_of I.hok eb) dd fun h' dd' hs => h _ ?_
    obtain ⟨q, es, ep, hq, h2, h3, h4, _, h5⟩ := dd'
    refine d_write I (by rw [e]; exact True.intro) hs ⟨q, hq⟩ ⟨hl, hd, _, (rel.put k eb rv).keeps fun c ys ec => ?_, q, es, ep, hq, h2, h3, h4, h5⟩
    rw [upd_ne (ne_of ec e (fun z => nomatch z))]
    exact ec
end

section
variable {X : Cx} {pins : List (Addr × Obj)} {σ : St} {H : Hp} {s : Shared} {a : Addr} {kvs : List (Key × V)} {k : Key} {u : Value} {A : Around} {E : Value → Shared → Prop}
end


/-! ### readings and rules -/
/-- the element of a subscription, not a slice -/
def NoSl (i : Expr) : Prop := ∀ ov iv, subscripted i false ov iv = operate [ov, iv] (getItem ov iv)
theorem subD_of {prog : Program} {w : World} {A : Around} {E : Value → Shared → Prop} {s : Shared} {env : Env} {value slice : Expr} {pos : Pos} {T id : String} {Q : Value → Shared → Prop}
    (hl : typeLookup (.type T) "__getitem__" = pure (some (.builtin id))) (hs : NoSl slice)
    (h : wpAny (model prog w) A (eval value env) (fun o s₁ => wpAny (model prog w) A (eval slice env) (fun i s₂ => s₂.TypeIs o T ∧ wpAny (model prog w) A (getItem o i) Q E s₂) E s₁) E s) :
    wpAny (model prog w) A (eval (.Subscript value slice pos) env) Q E s := by
  refine Subscript_ (wpAny_mono h (fun o s₁ h₁ => wpAny_mono h₁ (fun i s₂ h₂ => ?_) fun _ _ x => x) fun _ _ x => x)
  obtain ⟨hT, h₂⟩ := h₂
  unfold subscriptTail
  refine wpAny_bind ?_
  rw [getitemInPython_of_ne hT.not_modules]
  refine wpAny_bind (wpAny_specialOf hT hl ?_)
  have fin : wpAny (model prog w) A (subscripted slice false o i) (fun r s₃ => wpAny (model prog w) A (letTemporaryGo value o r >>= fun _ => pure r) Q E s₃) E s₂ := by
    rw [hs o i]
    exact wpAny_operating (wpAny_mono h₂ (fun r s₃ h₃ => wpAny_bind (wpAny_letTemporaryGo (wpAny_pure h₃))) fun _ _ x => x)
  first
    | exact wpAny_pure (wpAny_bind fin)
    | exact wpAny_bind (wpAny_pure (wpAny_bind fin))
    | exact wpAny_bind fin

theorem dict_typeIs {X : Cx} {pins : List (Addr × Obj)} {σ : St} {H : Hp} {s : Shared} {a : Addr} {y : V} {o : Option V} (I : Inv X pins σ H s) (g : DGet H a y o) : s.TypeIs (.ref a) "dict" := by
  rcases g with ⟨kvs, k, e, _, _⟩ | ⟨kvs, k, b, e, _, _, _⟩
  · obtain ⟨_, _, vs, _, dd⟩ := dk_rd I.hok e
    exact dd.typeIs
  · obtain ⟨_, _, xs, _, dd⟩ := dt_rd I.hok e
    exact dd.typeIs

/-- d[y] -/
def tDGet (td ty : TE) : TE := fun σ H Q => td σ H fun x H1 => ty σ H1 fun y H2 => ∃ a v, x = .ref a ∧ DGet H2 a y (some v) ∧ Q v H2
def tDNotIn (ty td : TE) : TE := fun σ H Q => ty σ H fun y H1 => td σ H1 fun x H2 => ∃ a o, x = .ref a ∧ DGet H2 a y o ∧ Q (.bl (!o.isSome)) H2
/-- d[y] = v -/
def sDPut (td ty tv : TE) : TS := fun D σ H => tv σ H fun v H1 => td σ H1 fun x H2 => ty σ H2 fun y H3 => ∃ a H4, x = .ref a ∧ DPut H3 a y v H4 ∧ D.nx σ H4

section
variable {X : Cx} {o i e value : Expr} {pos pos' tpos : Pos} {td ty tv : TE}
theorem pe_dget (hu : X.A.units + 1 < cLine) (ho : PE X o td) (hi : PE X i ty) (hs : NoSl i) : PE X (.Subscript o i pos) (tDGet td ty) := by
  intro pins s σ H Q I h
  refine subD_of PySem.F.slot_dict_getitem.lookup hs (thn (ho pins s σ H _ I h) fun u s1 ⟨x, H1, I1, rx, q1⟩ => thn (hi pins s1 σ H1 _ I1 q1) fun iv s2 ⟨y, H2, I2, ry, a, v, ex, g, q2⟩ => ?_)
  subst ex
  obtain rfl : u = Value.ref a := rx
  exact ⟨dict_typeIs I2 g, d_getItem hu I2 g ry fun w' s3 I3 rw' => ⟨v, H2, I3, rw', q2⟩⟩
theorem pc_dnotin (hu : X.A.units + 1 < cLine) (hi : PE X i ty) (ho : PE X o td) : PC X .NotIn i o (tDNotIn ty td) := by
  intro pins s σ H Q I h
  refine thn (hi pins s σ H _ I h) fun iv s1 ⟨y, H1, I1, ry, q1⟩ => thn (ho pins s1 σ H1 _ I1 q1) fun u s2 ⟨x, H2, I2, rx, a, ov, ex, g, q2⟩ => ?_
  subst ex
  obtain rfl : u = Value.ref a := rx
  exact d_notIn hu I2 g ry fun s3 I3 => ⟨.bl (!ov.isSome), H2, I3, rfl, q2⟩
theorem ps_dput (hu : X.A.units + 1 < cLine) (ho : PE X o td) (hi : PE X i ty) (hv : PE X value tv) (hs : swapsWith value (some (.Subscript o i pos')) pos.line X.env = pure false) :
    PS X (.Assign [.Subscript o i pos'] value pos) (sDPut td ty tv) := by
  intro pins s σ H D I h
  refine wpAny_Assign_Subscript (thn (hv pins s σ H _ I h) fun r s1 ⟨v, H1, I1, rv, q1⟩ => thn (ho pins s1 σ H1 _ I1 q1) fun u s2 ⟨x, H2, I2, rx, q2⟩ => thn (hi pins s2 σ H2 _ I2 q2) fun iv s3 ⟨y, H3, I3, ry, a, H4, ex, g, q3⟩ => ?_) hs
  subst ex
  obtain rfl : u = Value.ref a := rx
  exact d_setItem hu I3 g ry rv fun s4 I4 => ⟨σ, H4, I4, q3⟩
end


/-! ### displays -/
theorem dk_empty {P : Program} {w : World} {H : Hp} (h : Heap) (hb : sysModules < h.objs.size) : ObjOk P w H (h.push { cls := .type "dict", data := .dict #[] }) h.objs.size (.dK []) :=
  ⟨Nat.zero_le _, beq_eq_false_iff_ne.mpr (Ne.symm (Nat.ne_of_lt hb)), [], .nil, Heap.DictOf.new h⟩
/-- {}, to be a dict of the kind that is wanted -/
def tDNewK : TE := fun _ H Q => ∀ p, H p = none → Q (.ref p) (upd H p (.dK []))
section
variable {X : Cx} {pos : Pos}
theorem pe_dnewK : PE X (.Dict [] [] pos) tDNewK := fun pins s σ H Q I h =>
  wpAny_Dict_empty ⟨.ref s.heap.objs.size, _, I.laid (a := s.heap.objs.size) (o := .dK []) (t' := s.toks) (fun _ _ q => Heap.get?_push_of_some _ q) (Nat.le_refl _) (dk_empty s.heap I.big), rfl, h _ (I.hok.fresh (Nat.le_refl _))⟩
end

/-- the pairs of a display, from the left -/
def tPairs : List (TE × TE) → St → Hp → (List (V × V) → Hp → Prop) → Prop
  | [], _, H, Q => Q [] H
  | (tk, tv) :: r, σ, H, Q => tk σ H fun x H1 => tv σ H1 fun y H2 => tPairs r σ H2 fun ps H3 => Q ((x, y) :: ps) H3
abbrev VV : List (V × V) → List (Value × Value) → Prop := Paired fun p q => RelV p.1 q.1 ∧ RelV p.2 q.2
def PPs (X : Cx) (pos : Pos) (keys : List (Option Expr)) (values : List Expr) (trs : List (TE × TE)) : Prop :=
  ∀ (pins : List (Addr × Obj)) (s : Shared) (σ : St) (H : Hp) (Q : List (V × V) → Hp → Prop), Inv X pins σ H s → tPairs trs σ H Q →
    wpAny (model X.prog X.w) X.A (evalPairs (pairTrees keys values X.env pos)) (fun vs s' => ∃ ps H', Inv X pins σ H' s' ∧ VV ps vs ∧ Q ps H') X.xe s
theorem pps_nil {X : Cx} {pos : Pos} : PPs X pos [] [] [] := fun pins s σ H Q I h => pairTrees_nil_walk ⟨[], H, I, .nil, h⟩
theorem pps_cons {X : Cx} {pos : Pos} {k v : Expr} {ks : List (Option Expr)} {vs : List Expr} {tk tv : TE} {trs : List (TE × TE)} (hk : PE X k tk) (hv : PE X v tv) (hr : PPs X pos ks vs trs) :
    PPs X pos (some k :: ks) (v :: vs) ((tk, tv) :: trs) := fun pins s σ H Q I h =>
  pairTrees_cons_walk (thn (hk pins s σ H _ I h) fun u s1 ⟨x, H1, I1, rx, q1⟩ => thn (hv pins s1 σ H1 _ I1 q1) fun w2 s2 ⟨y, H2, I2, ry, q2⟩ =>
    thn (hr pins s2 σ H2 _ I2 q2) fun ws s3 ⟨ps, H3, I3, rel, q3⟩ => ⟨(x, y) :: ps, H3, I3, .cons ⟨rx, ry⟩ rel, q3⟩)

def mergeK (kvs more : List (Key × V)) : List (Key × V) := more.foldl (fun acc kv => putK acc kv.1 kv.2) kvs
theorem KV.merge : ∀ {more : List (Key × V)} {rs : List (Key × Value)} {kvs : List (Key × V)} {vs : List (Key × Value)}, KV more rs → KV kvs vs → KV (mergeK kvs more) (merged vs rs) := by
  intro more rs kvs vs r
  unfold KV at r
  induction r generalizing kvs vs with
  | nil => intro q; exact q
  | @cons p q ps qs h t ih =>
    intro r0
    have e : KV (putK kvs p.1 p.2) (stored vs q.1 q.2) := by
      have := r0.put p.1 h.2
      rw [← h.1]; exact this
    exact ih e
theorem length_mergeK : ∀ (more kvs : List (Key × V)), (mergeK kvs more).length ≤ kvs.length + more.length
  | [], kvs => by show kvs.length ≤ kvs.length + 0; omega
  | p :: r, kvs => by
    have h1 := length_mergeK r (putK kvs p.1 p.2)
    have h2 := length_putK kvs p.1 p.2
    show (mergeK (putK kvs p.1 p.2) r).length ≤ _
    rw [List.length_cons]; omega
theorem carries_of {P : Program} {w : World} : ∀ {kvs : List (Key × V)} {ws : List (Value × Value)}, VV (kvs.map fun kv => (kV kv.1, kv.2)) ws → ∃ rs, Carries (mixKind P w) ws rs ∧ KV kvs rs
  | [], _, r => by rw [List.map_nil] at r; cases r; exact ⟨[], True.intro, .nil⟩
  | p :: kvs, _, r => by
    rw [List.map_cons] at r
    cases r with
    | @cons a b as bs h t =>
      obtain ⟨rs, c, q⟩ := carries_of (P := P) (w := w) t
      obtain ⟨b1, b2⟩ := b
      exact ⟨(p.1, b2) :: rs, ⟨kV_is h.1, rfl, c⟩, .cons ⟨rfl, h.2⟩ q⟩
/-- {k: v, ..} with keys ints and texts; the new dict stands empty while the pairs are made -/
def tDisp (trs : List (TE × TE)) : TE := fun σ H Q => ∀ p, H p = none → tPairs trs σ (upd H p (.dK [])) fun ps H2 => H2 p = some (.dK []) ∧ ∃ kvs : List (Key × V), ps = kvs.map (fun kv => (kV kv.1, kv.2)) ∧ kvs.length ≤ 15 ∧ Q (.ref p) (upd H2 p (.dK (mergeK [] kvs)))
theorem pe_disp {X : Cx} {pos : Pos} {keys : List (Option Expr)} {values : List Expr} {trs : List (TE × TE)} (h : PPs X pos keys values trs) (hall : keys.all (·.isSome) = true) (hl : keys.length = values.length) (h0 : keys ≠ [])
    (h15 : keys.length ≤ 15) : PE X (.Dict keys values pos) (tDisp trs) := by
  intro pins s σ H Q I q
  have hn := I.hok.fresh (Nat.le_refl s.heap.objs.size)
  have I1 := I.laid (a := s.heap.objs.size) (o := .dK []) (h' := s.heap.push { cls := .type "dict", data := .dict #[] }) (t' := s.toks) (fun _ _ q => Heap.get?_push_of_some _ q) (Nat.le_refl _) (dk_empty s.heap I.big)
  refine wpAny_Dict_walk (knd := mixKind X.prog X.w) hall hl h0 h15 (thn (h pins _ σ _ _ I1 (q _ hn)) fun ws s2 ⟨ps, H2, I2, rel, e, kvs, ep, lk, q2⟩ => ?_)
  subst ep
  obtain ⟨rs, c, rk⟩ := carries_of (P := X.prog) (w := X.w) rel
  obtain ⟨z, hd, vs0, r0, dd⟩ := dk_of I2.hok e
  cases r0
  refine ⟨rs, c, dd, fun h' dd' hs => ⟨.ref s.heap.objs.size, _, ?_, rfl, q2⟩⟩
  have hz : (mergeK [] kvs).length ≤ sizeLine := by
    have h1 := length_mergeK kvs []
    rw [List.length_nil] at h1
    rw [sizeLine_eq]; omega
  have he : ∃ q, h'.get? s.heap.objs.size = some q := let ⟨q, _, _, hq, _⟩ := dd'; ⟨q, hq⟩
  exact d_write I2 (by rw [e]; exact True.intro) hs he (dk_new hz hd (rk.merge .nil) dd')


/-! ### methods -/
/-- a method call o.m(e) of a built-in, with one argument: what must be seen of the text -/
structure M1 (X : Cx) (o : Expr) (m : Str) (apos : Pos) (e : Expr) (cpos : Pos) : Prop where
  base : attributeBase o m X.env (eval o X.env) = eval o X.env
  few : ((backTo cpos (starEach [e] X.env)).all (fun x => !x.1) && (backToKw cpos (keywordEach [] X.env)).all (fun x => x.1.isSome)
    && decide (([e] : List Expr).length + ([] : List Keyword).length + (if ([] : List Keyword).isEmpty then 0 else 1) < 30)) = true
  line : (apos.endLine == cpos.line) = true
  trees : backTo cpos (starEach [e] X.env) = [(false, eval e X.env)]
structure M2 (X : Cx) (o : Expr) (m : Str) (apos : Pos) (e f : Expr) (cpos : Pos) : Prop where
  base : attributeBase o m X.env (eval o X.env) = eval o X.env
  few : ((backTo cpos (starEach [e, f] X.env)).all (fun x => !x.1) && (backToKw cpos (keywordEach [] X.env)).all (fun x => x.1.isSome)
    && decide (([e, f] : List Expr).length + ([] : List Keyword).length + (if ([] : List Keyword).isEmpty then 0 else 1) < 30)) = true
  line : (apos.endLine == cpos.line) = true
  trees : backTo cpos (starEach [e, f] X.env) = [(false, eval e X.env), (false, eval f X.env)]


section
variable {X : Cx} {pins : List (Addr × Obj)} {σ : St} {H : Hp} {s : Shared} {a : Addr} {y d : V} {u r : Value} {o : Option V} {A : Around} {E : Value → Shared → Prop}
end

section
variable {X : Cx} {o e f : Expr} {apos cpos : Pos} {td ty tx : TE}
end

/-! ### dict(d): a copy -/
section
variable {X : Cx} {pins : List (Addr × Obj)} {σ : St} {H : Hp} {s : Shared} {a : Addr} {kvs : List (Key × V)} {A : Around} {E : Value → Shared → Prop}
end


section
variable {X : Cx} {pins : List (Addr × Obj)} {σ : St} {H : Hp} {s : Shared} {a : Addr} {y : V} {u : Value} {A : Around} {E : Value → Shared → Prop}
end
end L2

namespace Att
open PySem PySem.W PySem.Calls PyProof.Rows

/-! ### the script -/
theorem ints_of_wellAll {P : Params} {h : Heap} : ∀ (ns : List Int) (vs : List Value), WellAll P h vs (ns.map WData.int) → IntsAre vs ns := by
  intro ns
  induction ns with
  | nil =>
    intro vs w
    rw [List.map_nil] at w
    cases w
    exact .nil
  | cons n ns ih =>
    intro vs w
    rw [List.map_cons] at w
    cases w with
    | cons a b =>
      cases a
      exact .cons _ _ (ih _ b)

theorem script_of {l : OpenLaw} {n : Nat} (hn : l.most = some n) {P : Params} {h : Heap} {args : List WData} {vals : List Value}
    (hpre : l.row.toRowW.claim.pre args = true) (hwl : WellAll P h vals args) :
    ∃ a vs ns, vals = [Value.ref a] ∧ args = [WData.list (ns.map WData.int)] ∧ h.get? a = some { cls := .type "list", data := .seq vs.toArray } ∧ IntsAre vs ns ∧ ns.length ≤ n := by
  have hsh : WShape.hasAll [] args [.list .int] = true := (pre_splitW hpre).1
  have hc : l.pre.holds [] { args := args } = true := (pre_splitW hpre).2
  obtain ⟨d, r, rfl, h1, h2⟩ := hasAllW_cons hsh
  obtain rfl := hasAllW_nil h2
  obtain ⟨xs, rfl, h3⟩ := hasW_list h1
  obtain ⟨ns, rfl⟩ := items_int h3
  have hlen : ns.length ≤ n := by
    unfold OpenLaw.pre at hc
    have h4 : (WTm.not (.lt (.lit (.int (n : Int))) (.len (.arg 0)))).holds [] { args := [.list (ns.map .int)] } = true := by
      have h4 := (holds_andW hc).1
      rw [hn] at h4
      exact h4
    have h5 := condW_of h4 (w_not (w_lt w_lit (w_len_list (w_arg rfl))))
    rw [List.length_map] at h5
    refine Nat.le_of_not_lt fun q => ?_
    have q' : (n : Int) < ((ns.length : Nat) : Int) := by omega
    first
      | (rw [decide_eq_true q'] at h5; exact absurd h5 (by decide))
      | (simp at h5; omega)
  cases hwl with
  | cons w1 w2 =>
    cases w2
    cases w1 with
    | list ho hall => exact ⟨_, _, ns, rfl, rfl, ho, ints_of_wellAll ns _ hall, hlen⟩

theorem post_true (l : OpenLaw) (args : List WData) : l.row.toRowW.claim.post args (.bool true) args = true :=
  postW_of (r := l.row.toRowW) (X := (true == true))
    (show WShape.has [] (.bool true) .bool = true by first | rfl | decide | simp [WShape.has, WShape.arms, WShape.armsAll])
    (show (WTm.eq .res (.lit (.bool true))).value [] { args := args, res := some (.bool true), after := args } = some (.bool (true == true)) from w_eq_bool (w_res rfl) w_lit) rfl

/-! ### the attachment: holds_open's last premise (the goal 'hc' behind k_head) from a wpAny of the law's body -/

/-- the same from a codeAny of the CALL (for a layer whose function contracts speak of calls) -/
theorem attach_call {l : OpenLaw} {n : Nat} {q : Program} {loose : List Str} {XP : (Str → Option Value) → Heap → Prop} {YP : World → Heap → Prop} {d : DefRec}
    (hn : l.most = some n) (hdf : d.params.defaults = [])
    (call : ∀ (w : World) (s₀ s₁ : Shared) (mg mb : Str → Option Value) (fa : Addr) (o : Obj) (pm cd doc : Value) (a : Addr) (vs : List Value) (ns : List Int),
      Ground q loose [] XP w s₀ mg mb s₁.heap → YP w s₁.heap →
      s₁.heap.get? fa = some o → o.data = .func (docDef d.name d.params d.body d.scope pm cd doc) → s₁.heap.CodeRec cd d.name → mg d.name = some (.ref fa) →
      s₁.heap.get? a = some { cls := .type "list", data := .seq vs.toArray } → IntsAre vs ns → ns.length ≤ n → s₁.gens = #[] →
      codeAny (model l.prog w) callerA (.call (.ref fa) ⟨[.ref a], []⟩) (fun r s' => r = .ok (.ret (.bool true)) ∧ OldK s₁.heap s'.heap ∧ s'.os = s₁.os ∧ AllBare s'.gens) s₁) :
    WalkO q loose XP YP l.row.toRowW d [] (fun f vs => PySem.call f vs) := by
  intro w s₀ s₁ mg mb G Y fa o pm cd doc dV kV ho hd hcd hD hmg hg args vals as hpre hlay hrd hwl hlo
  obtain rfl : dV = .none := Dflts.none hD hdf
  obtain rfl : kV = .none := Dflts.noKw hD
  obtain ⟨a, vs, ns, rfl, rfl, hobj, hints, hlen⟩ := script_of hn hpre hwl
  refine enter_call (codeAny_mono (call w s₀ s₁ mg mb fa o pm cd doc a vs ns G Y ho (fd_plain hd) hcd hmg hobj hints hlen hg) fun r s' hq => ?_)
  obtain ⟨rfl, h2, h3, h4⟩ := hq
  exact ⟨.inl ⟨.bool true, .bool true, [], rfl, fun _ => rfl, .bool true, post_true l _, fun _ => ⟨List.Pairwise.nil, fun _ hm => (nomatch hm)⟩⟩, h2, h3, h4⟩


/-! ### rules over ANY heap (no ledger) from facts about the written part K: the library's own take a ledger (News) for what they write -/
section
variable {prog : Program} {w : World} {A : Around} {E : Value → Shared → Prop} {s : Shared} {K : Frag}





/-! the whole heap as the ledger: makes every rule that writes through a ledger a rule over any heap -/

end
end Att

namespace L2
open PySem PySem.Spec PyProof.Rows

theorem vals_ints : ∀ {vs : List Value} {ns : List Int}, IntsAre vs ns → Vals (ns.map V.int) vs
  | _, _, .nil => .nil
  | _, _, .cons n t h => .cons ⟨t, rfl⟩ (vals_ints h)

/-- nothing is tracked but the script, known to the object (or it is an object of the module) -/
def Only (H : Hp) : Prop := ∀ b, H b = none ∨ ∃ o xs, H b = some (.frz o (.lst xs))

/-- THE HEAD: the law's promise, at the heap behind the top. F, the promise of the law's def, may use that base is part of the heap (so K.In base, base.Ns mainGlobals mg stand in Mod) -/
theorem law_call {P : Program} {w : World} {K : PySem.W.Frag} {mg mb : Str → Option Value} {CX : CXT} {k : Nat} {fa a : Addr} {fd : FuncData} {x : Str} {sp : Sp} {s₁ : Shared} {vs : List Value} {ns : List Int}
    (KX : K.In s₁.heap) (hns : s₁.heap.Ns mainGlobals mg) (hb : s₁.heap.Ns builtinsNs mb) (hbb : ∀ x : Str, x ≠ "__name__" → mb x = bootBuiltins x) (hlim : s₁.heap.NoLimit) (hg : s₁.gens = #[])
    (ha : s₁.heap.get? a = some { cls := .type "list", data := .seq vs.toArray }) (hi : IntsAre vs ns) (hl : ns.length ≤ sizeLine) (hr : Room k callerA)
    (F : ∀ base : Heap, K.In base → base.Ns mainGlobals mg → FnOk P w K mg base CX k fa fd [x] sp) (hbind : ∀ (s : Shared) (u : Value), BindsTo s fd ⟨[u], []⟩ [(x, u)])
    (hsp : ∀ H : Hp, Only H → SqL K H a (ns.map V.int) → sp [.ref a] H (fun v _ => v = .bl true) fun _ _ _ => False)
    (hCX : ∀ H e s', CX [] H s₁ (fun _ _ _ => False) e s' → False) :
    codeAny (model P w) callerA (.call (.ref fa) ⟨[.ref a], []⟩) (fun r s' => r = .ok (.ret (.bool true)) ∧ OldK s₁.heap s'.heap ∧ s'.os = s₁.os ∧ AllBare s'.gens) s₁ := by
  have rv := vals_ints hi
  have lenV := hi.length
  -- from an abstract heap in which nothing but the script may be tracked
  have core : ∀ H : Hp, Only H → SqL K H a (ns.map V.int) → HOk P w H s₁.heap → (∀ b, H b ≠ none → b = a) → (H a ≠ none → K.lookup a = none) →
      codeAny (model P w) callerA (.call (.ref fa) ⟨[.ref a], []⟩) (fun r s' => r = .ok (.ret (.bool true)) ∧ OldK s₁.heap s'.heap ∧ s'.os = s₁.os ∧ AllBare s'.gens) s₁ := by
    intro H hO hS hok hA hK
    have base_of : ∀ {b : Addr} {o : Obj}, s₁.heap.get? b = some o → H b = none → (hidT s₁.heap H).get? b = some o := fun e n => hidT_get e n
    have noA : ∀ {b : Addr} {o : Obj} {es : Array DictEntry} {ep : Nat}, s₁.heap.get? b = some o → o.data = .dict es ep → H b = none := fun {b o es ep} e d => by
      cases q : H b with
      | none => rfl
      | some u =>
        have e' : b = a := hA b (by rw [q]; simp)
        subst e'
        rw [ha] at e; cases e
        have d' : Data.seq vs.toArray _ = Data.dict es ep := d
        cases d'
    have nsK : ∀ {b : Addr} {m : Str → Option Value}, s₁.heap.Ns b m → (hidT s₁.heap H).Ns b m := fun {b m} ⟨o, es, ep, e, d, r⟩ => ⟨o, es, ep, base_of e (noA e d), d, r⟩
    have hKb : K.In (hidT s₁.heap H) := fun b o e => base_of (KX b o e) (by
      cases q : H b with
      | none => rfl
      | some u =>
        have e' : b = a := hA b (by rw [q]; simp)
        subst e'
        rw [hK (by rw [q]; simp)] at e; cases e)
    have hM : Mod K mg (hidT s₁.heap H) := ⟨hKb, nsK hns, ⟨mb, nsK hb, hbb⟩, let ⟨mc, h1, h2⟩ := hlim; ⟨mc, nsK h1, h2⟩⟩
    have e0 : Env0 P w K mg (hidT s₁.heap H) callerA [] s₁ H := ⟨rfl, hM, fun b o e => of_hidT e, Nat.le_of_eq (hidT_size _ _), trivial, fun b hb => absurd (show b ∈ ([] : List Addr) from hb) (by simp), hok, .of_eq hg⟩
    refine codeAny_mono ((F _ hKb (nsK hns)).run callerA [] s₁ H ⟨[.ref a], []⟩ [.ref a] [.ref a] _ _ hr e0 (hbind s₁ (.ref a)) (.cons rfl .nil) (hsp H hO hS)) fun r s' h => ?_
    cases r with
    | error e => exact (hCX H e s' h).elim
    | ok fl =>
      cases fl with
      | next => exact False.elim h
      | brk => exact False.elim h
      | cont => exact False.elim h
      | ret u =>
        obtain ⟨v, H', os, bare, un, hok', r', q⟩ := h
        have q' : v = .bl true := q
        subst q'
        obtain rfl : u = Value.bool true := r'
        refine ⟨rfl, OldK.of_keep fun b o e => ?_, os, bare⟩
        cases q : H b with
        | none => exact un.keep b o e q (by intro z; exact absurd (show b ∈ ([] : List Addr) from z) (by simp)) (by simp)
        | some u =>
          rcases hO b with z | ⟨ob, xs, z⟩
          · rw [q] at z; cases z
          · have z2 := un.frzs b ob _ z
            obtain ⟨e1, _⟩ := hok b _ z
            obtain ⟨e2, _⟩ := hok' b _ z2
            rw [e] at e1; cases e1
            exact e2
  cases hk : K.lookup a with
  | some o =>
    -- the script is one of the module's own objects
    have e := KX a o hk
    rw [ha] at e
    cases e
    refine core (fun _ => none) (fun _ => .inl rfl) (.inr ⟨_, vs.toArray, _, hk, rfl, rfl, rfl, by rw [List.size_toArray, lenV]; exact hl, by simpa using rv⟩) (fun b u z => by have z' : (none : Option HO) = some u := z; cases z') (fun b z => absurd rfl z) fun z => absurd rfl z
  | none =>
    refine core (fun b => if b = a then some (.frz { cls := .type "list", data := .seq vs.toArray } (.lst (ns.map V.int))) else none) (fun b => ?_) (.inl (.inr ⟨{ cls := .type "list", data := .seq vs.toArray }, if_pos rfl⟩)) (fun b u z => ?_) (fun b z => ?_) fun _ => hk
    · by_cases hb : b = a
      · exact .inr ⟨_, _, if_pos hb⟩
      · exact .inl (if_neg hb)
    · by_cases hb : b = a
      · have z' := (if_pos hb).symm.trans z
        cases z'
        subst hb
        exact ⟨ha, by rw [List.length_map]; exact hl, vs, _, rv, ha⟩
      · have z' := (if_neg hb).symm.trans z
        cases z'
    · by_cases hb : b = a
      · exact hb
      · exact absurd (if_neg hb) z
end L2

namespace L2
open PySem PySem.Spec PyProof.Rows


/-- the goal that k_head leaves (case hc), from the law's promise. F gives the function object fd (K's own) once, then the promise over every base -/
theorem walk_of {l : PySem.W.OpenLaw} {n k : Nat} {q : Program} {loose : List Str} {XP : (Str → Option Value) → Heap → Prop} {YP : World → Heap → Prop} {d : DefRec} {K : Params → PySem.W.Frag} {CX : World → CXT} {sp : World → Sp} {x : Str}
    (hn : l.most = some n) (hn2 : n ≤ sizeLine) (hdf : d.params.defaults = []) (hr : Room k callerA)
    (hY : ∀ (w : World) (h : Heap), YP w h → (K w.params).In h)
    (F : ∀ (w : World) (mg : Str → Option Value) (fa : Addr) (h : Heap), (K w.params).In h → h.Ns mainGlobals mg → mg d.name = some (.ref fa) →
      ∃ fd : FuncData, (∀ (s : Shared) (u : Value), BindsTo s fd ⟨[u], []⟩ [(x, u)]) ∧
        ∀ base : Heap, (K w.params).In base → base.Ns mainGlobals mg → FnOk l.prog w (K w.params) mg base (CX w) k fa fd [x] (sp w))
    (hsp : ∀ (w : World) (H : Hp) (a : Addr) (ns : List Int), ns.length ≤ n → Only H → SqL (K w.params) H a (ns.map V.int) → sp w [.ref a] H (fun v _ => v = .bl true) fun _ _ _ => False)
    (hCX : ∀ (w : World) (H : Hp) (s : Shared) (e : Value) (s' : Shared), CX w [] H s (fun _ _ _ => False) e s' → False) :
    PySem.W.WalkO q loose XP YP l.row.toRowW d [] (fun f vs => PySem.call f vs) := by
  refine Att.attach_call hn hdf fun w s₀ s₁ mg mb fa o pm cd doc a vs ns G Y ho hd hcd hmg hobj hints hlen hg => ?_
  have KX := hY w _ Y
  obtain ⟨fd, hb, hF⟩ := F w mg fa _ KX G.T.g hmg
  exact law_call KX G.T.g G.T.b G.T.builtins G.T.nolimit hg hobj hints (Nat.le_trans hlen hn2) hr hF hb (fun H hO hS => hsp w H a ns hlen hO hS) fun H e s' => hCX w H s₁ e s'
end L2

/- THE LAST THEOREM (shape; LID, My.* are yours):
   My.Adr: a structure of the addresses that your layer names (classes, functions); My.Txt K t: a structure (Prop) of the equations over K;
   My.txt_mk : {K} {implicit addresses ..} (e1 : nsIn K mainGlobals "law" = some (some (.ref f))) (e2 : K.lookup f = some ⟨oc, od, .func (fnOf "law" "law" params body scope dV kV doc pm an cdv ct), sl⟩) (e3 : codeIn K cdv "law" = true) .. : ∃ t, My.Txt K t

set_option maxRecDepth 100000 in
set_option maxHeartbeats 0 in
theorem PySem.Challenge.cw_LID_holds : PySem.Challenge.rw_LID.Holds := by
  w_on; o_law; k_head; (case hw => w_witness2)
  k_fill
  refine L2.walk_of (l := PySem.Challenge.rw_LID) (n := 63) (k := 40) (x := "script") (CX := fun w => ..) (sp := fun _ => My.sp_law) rfl (by decide) rfl ⟨rfl, by decide, by decide⟩ (fun w h Y => PySem.W.kIn_of Y) ?F ?S ?C
  case F =>
    intro w mg fa h KX G hmg
    have T : ∃ t, My.Txt (L2.KOf KX) t := by
      dsimp only [L2.KOf]                          -- K must stand as «<heap const> w.params» for k_is
      refine' My.txt_mk ?e1 ?e2 ?e3 ..
      (case e1 => PySem.W.k_is)                    -- in the order: a name -> its address -> its object -> its parts
      (case e2 => PySem.W.k_is)
      ..
    obtain ⟨t, T⟩ := T
    have e0 := hmg.symm.trans (PySem.W.mg_of KX G T.law)
    cases e0                                       -- fa is the law's own address
    exact ⟨_, fun s u => .of_eq rfl, fun base kb nb => My.law_fn T kb nb⟩     -- if «.of_eq rfl» comes too early: refine' ⟨_, ?b, fun base kb nb => My.law_fn T kb nb⟩; exact fun s u => .of_eq rfl
  case S => exact fun w H a ns hl hO hS => ..
  case C => exact ..
(the tactic k_is has no namespace: write k_is) -/

/-! SHORT WORDS over the layer: a def of the text, its body, what a loop and a test want. -/
namespace L2
open PySem PySem.Spec PyProof.Rows

/-! ### the text by places -/
def defArgs (s : Stmt) : Arguments := match s with
  | .FunctionDef _ a _ _ _ _ _ _ _ _ => a
  | _ => { posonlyargs := [], args := [], vararg := none, kwonlyargs := [], kw_defaults := [], kwarg := none, defaults := [] }
def defBody (s : Stmt) : List Stmt := match s with
  | .FunctionDef _ _ b _ _ _ _ _ _ _ => b
  | _ => []
def defScope (s : Stmt) : Scope := match s with
  | .FunctionDef _ _ _ _ _ _ sc _ _ _ => sc
  | _ => { kind := .function, names := [], isGenerator := false, isCoroutine := false }

/-! ### no exception leaves a def -/
abbrev CX0 : CXT := fun _ _ _ _ _ _ => False
abbrev E0 : XK := fun _ _ _ => False
theorem pass0 {X : Cx} : Passes CX0 X E0 := fun _ _ _ _ _ _ _ h => h.elim

/-! ### a def (or method) of the text as it stands behind the top -/
structure Fun (K : PySem.W.Frag) (x qual : Str) (st : Stmt) (f : Addr) (fd : FuncData) : Prop where
  ex : ∃ (oc : Value) (od : Option Addr) (kV doc pm : Value) (an : Option Addr) (cdv ct : Value) (osl : Array (Option Value)),
    fd = PySem.W.fnOf x qual (defArgs st) (defBody st) (defScope st) .none kV doc pm an cdv ct ∧ K.lookup f = some ⟨oc, od, .func fd, osl⟩ ∧ PySem.W.codeIn K cdv qual = true
  kp : PySem.W.keepIn K (.ref f) = true
section
variable {P : Program} {w : World} {K : PySem.W.Frag} {mg : Str → Option Value} {base : Heap}
/-- THE RULE for a def: its body as a term of rules, and the reading of that term -/
theorem Fun.ok {x qual : Str} {st : Stmt} {f : Addr} {fd : FuncData} {N ps : List Str} {k : Nat} {sp : Sp} (F : Fun K x qual st f fd) (S : FnScope N ps (defScope st)) (len : ∀ vs H Q E, sp vs H Q E → vs.length = ps.length)
    (hbody : ∀ (cdv : Value) (A : Around) (outer : List Env) (s : Shared) (H : Hp) (vs : List V) (Q : VK) (E : XK), Room k (A.deeper (envOfC qual (defScope st) s.heap.objs.size f cdv)) → sp vs H Q E →
      ∃ t, PSs (cxOf CX0 P w K mg base N qual (defScope st) f cdv A outer s H E).nox (defBody st) t ∧ t { nx := fun _ H' => Q .non H', rt := Q } (start N vs) H) : FnOk P w K mg base CX0 (k + 1) f fd ps sp := by
  obtain ⟨oc, od, kV, doc, pm, an, cdv, ct, osl, rfl, lk, hcd⟩ := F.ex
  refine fn_of lk hcd S len fun A outer s H vs Q E hr hsp => ?_
  obtain ⟨t, h, q⟩ := hbody cdv A outer s H vs Q E hr hsp
  exact ⟨t, h.nox, q⟩
/-- how its arguments bind (no defaults): h is «fun _ _ _ _ _ _ us hl => match us, hl with | [_, _], _ => rfl», one _ a parameter -/
theorem Fun.binds {x qual : Str} {st : Stmt} {f : Addr} {fd : FuncData} {ps : List Str} (F : Fun K x qual st f fd)
    (h : ∀ (kV doc pm : Value) (an : Option Addr) (cdv ct : Value) (us : List Value), us.length = ps.length → bindArgs (PySem.W.fnOf x qual (defArgs st) (defBody st) (defScope st) .none kV doc pm an cdv ct) ⟨us, []⟩ = pure (ps.zip us)) : Binds K fd ps [] := by
  obtain ⟨oc, od, kV, doc, pm, an, cdv, ct, osl, rfl, lk, hcd⟩ := F.ex
  exact .all (h kV doc pm an cdv ct)
theorem fun_mk {x qual : Str} {st : Stmt} {f : Addr} {oc : Value} {od an : Option Addr} {osl : Array (Option Value)} {kV doc pm cdv ct : Value} (l : K.lookup f = some ⟨oc, od, .func (PySem.W.fnOf x qual (defArgs st) (defBody st) (defScope st) .none kV doc pm an cdv ct), osl⟩)
    (c : PySem.W.codeIn K cdv qual = true) (k : PySem.W.keepIn K (.ref f) = true) : Fun K x qual st f (PySem.W.fnOf x qual (defArgs st) (defBody st) (defScope st) .none kV doc pm an cdv ct) := ⟨⟨oc, od, kV, doc, pm, an, cdv, ct, osl, rfl, l, c⟩, k⟩
end
theorem hu_of {A : Around} {k : Nat} (hr : Room k A) : A.units + 1 < cLine := Nat.lt_of_le_of_lt (Nat.add_le_add_left (by decide : 1 ≤ 64) _) hr.units

/-! ### expressions in short: the name that stands in the i-th slot -/
section
variable {X : Cx}
theorem pv (i : Nat) {x : Str} {pos : Pos} (hN : X.N[i]? = some x := by rfl) (hv : Vis X.env.scope x := by first | exact Or.inl rfl | exact Or.inr (Or.inl rfl) | exact Or.inr (Or.inr rfl)) (hd : (x == ("__debug__" : Str)) = false := by decide)
    (hcd : (x == ("__classdict__" : Str)) = false := by decide) : PE X (.Name x pos) (tVar i) := pe_var hN hv hd hcd
end

/-! ### tests -/
theorem iteF {A B : Prop} (h : B) : if false = true then A else B := by
  rw [if_neg Bool.false_ne_true]
  exact h
theorem iteT {A B : Prop} (h : A) : if true = true then A else B := by
  rw [if_pos rfl]
  exact h
theorem ite2 {c A B : Prop} [Decidable c] (h1 : c → A) (h2 : ¬ c → B) : if c then A else B := by
  by_cases h : c
  · rw [if_pos h]
    exact h1 h
  · rw [if_neg h]
    exact h2 h
theorem iteNS {c A B : Prop} [Decidable c] (hc : c) (h : B) : if (!decide c) = true then A else B := by
  rw [decide_eq_true hc]
  exact iteF h

/-! ### heaps -/
/-- all that was tracked is as it was -/
def Same (H H' : Hp) : Prop := ∀ b o, H b = some o → H' b = some o
theorem Same.refl (H : Hp) : Same H H := fun _ _ h => h
theorem Same.trans {H H1 H2 : Hp} (a : Same H H1) (b : Same H1 H2) : Same H H2 := fun c o h => b c o (a c o h)
theorem Same.seq {K : PySem.W.Frag} {H H' : Hp} {a : Addr} {xs : List V} (e : Same H H') (h : SqL K H a xs) : SqL K H' a xs := by
  rcases h with (h | ⟨o, h⟩) | h
  · exact .inl (.inl (e _ _ h))
  · exact .inl (.inr ⟨o, e _ _ h⟩)
  · exact .inr h

/-! ### a dict's pairs: keys that differ -/
section
variable {κ : Type} [DecidableEq κ]
end
end L2
set_option Elab.async false
set_option linter.all false
set_option maxRecDepth 100000
/-! ### a list comprehension of one clause -/
namespace L2
open PySem PySem.Spec PyProof.Rows

/-- the cells that a block takes along -/
def clOf (cells : List (Str × Addr)) : List (Str × NameKind) → List (Str × Addr) → List (Str × Addr)
  | [], acc => acc
  | (x, k) :: r, acc => if k == NameKind.free then clOf cells r ((x, (cells.lookup x).getD 0) :: acc) else clOf cells r acc
theorem clOf_mem {cells : List (Str × Addr)} {p : Str × Addr} : ∀ {names : List (Str × NameKind)} {acc : List (Str × Addr)}, p ∈ clOf cells names acc → p ∈ acc ∨ ((p.1, NameKind.free) ∈ names ∧ p.2 = (cells.lookup p.1).getD 0)
  | [], _, h => .inl h
  | (x, k) :: r, acc, h => by
    unfold clOf at h
    by_cases hk : (k == NameKind.free) = true
    · rw [if_pos hk] at h
      have ek : k = NameKind.free := by simpa using hk
      subst ek
      rcases clOf_mem h with h | ⟨h, e⟩
      · rcases List.mem_cons.mp h with h | h
        · subst h
          exact .inr ⟨List.mem_cons_self, rfl⟩
        · exact .inl h
      · exact .inr ⟨List.mem_cons_of_mem _ h, e⟩
    · rw [if_neg hk] at h
      rcases clOf_mem h with h | ⟨h, e⟩
      · exact .inl h
      · exact .inr ⟨List.mem_cons_of_mem _ h, e⟩
theorem clOf_acc {cells : List (Str × Addr)} {p : Str × Addr} : ∀ {names : List (Str × NameKind)} {acc : List (Str × Addr)}, p ∈ acc → p ∈ clOf cells names acc
  | [], _, h => h
  | (x, k) :: r, acc, h => by
    unfold clOf
    split
    · exact clOf_acc (List.mem_cons_of_mem _ h)
    · exact clOf_acc h
theorem clOf_has {cells : List (Str × Addr)} {x : Str} : ∀ {names : List (Str × NameKind)} {acc : List (Str × Addr)}, (x, NameKind.free) ∈ names → (x, (cells.lookup x).getD 0) ∈ clOf cells names acc
  | [], _, h => by simp at h
  | (y, k) :: r, acc, h => by
    unfold clOf
    rcases List.mem_cons.mp h with h | h
    · have e1 : x = y := congrArg Prod.fst h
      have e2 : NameKind.free = k := congrArg Prod.snd h
      subst e1 e2
      rw [if_pos (by simp)]
      exact clOf_acc List.mem_cons_self
    · split
      · exact clOf_has h
      · exact clOf_has h
theorem lookup_of_mem {x : Str} {c : Addr} : ∀ {l : List (Str × Addr)}, (x, c) ∈ l → ∃ d, l.lookup x = some d
  | [], h => by simp at h
  | (y, d) :: r, h => by
    rw [List.lookup_cons]
    by_cases e : (x == y) = true
    · rw [e]; exact ⟨d, rfl⟩
    · have e' : (x == y) = false := by simpa using e
      rw [e']
      rcases List.mem_cons.mp h with h | h
      · have : x = y := congrArg Prod.fst h
        exact absurd (by simpa using this) e
      · exact lookup_of_mem h
theorem closureFor_is {env : Env} {scope : Scope} (h : ∀ y ∈ scope.names, y.2 = NameKind.free → ∃ c, env.cells.lookup y.1 = some c) : closureFor scope env = pure (clOf env.cells scope.names []) := by
  have all : ∀ (names : List (Str × NameKind)) (acc : List (Str × Addr)), (∀ y ∈ names, y.2 = NameKind.free → ∃ c, env.cells.lookup y.1 = some c) →
      (forIn names acc (fun (p : Str × NameKind) (r : List (Str × Addr)) => (if (p.2 == NameKind.free) = true then (do let a ← cellOf env p.1; pure (ForInStep.yield ((p.1, a) :: r))) else pure (ForInStep.yield r) : Sem (ForInStep (List (Str × Addr)))))) = (pure (clOf env.cells names acc) : Sem (List (Str × Addr))) := by
    intro names
    induction names with
    | nil => intro acc _; rfl
    | cons p r ih =>
      intro acc hh
      obtain ⟨x, k⟩ := p
      have hr : ∀ y ∈ r, y.2 = NameKind.free → ∃ c, env.cells.lookup y.1 = some c := fun y hy => hh y (List.mem_cons_of_mem _ hy)
      rw [List.forIn_cons]
      unfold clOf
      by_cases hk : (k == NameKind.free) = true
      · obtain ⟨c, hc⟩ := hh (x, k) List.mem_cons_self (by simpa using hk)
        have hc : env.cells.lookup x = some c := hc
        have ec : cellOf env x = pure c := by
          unfold cellOf
          rw [hc]
        simp only [hk, if_true, ec, pure_bind, hc, Option.getD_some]
        exact ih _ hr
      · simp only [hk, if_false, pure_bind]
        exact ih _ hr
  have e := all scope.names [] h
  unfold closureFor
  simp only [bind_pure]
  exact e

/-- the check of a block's scope against the scope around it -/
def blkOk (scope sc : Scope) (NB own : List Str) (cap : List Nat) (N : List Str) : Bool :=
  (scope.kind == .function) && (sc.kind == .function) &&
  (scope.names.all fun y => match y.2 with
    | .cell => false
    | .free => sc.names.lookup y.1 == some NameKind.cell
    | .local => scope.names.lookup y.1 == some NameKind.local
    | _ => true) &&
  (own.all fun x => scope.names.lookup x == some NameKind.local && scope.names.all fun y => !(y.1 == x) || y.2 == NameKind.local) &&
  (NB == own ++ cap.map fun i => N.getD i "") && (cap.all fun i => decide (i < N.length) && scope.names.lookup (N.getD i "") == some NameKind.free)

structure Blk (X : Cx) (scope : Scope) (NB own : List Str) (cap : List Nat) : Prop where
  kind : scope.kind = .function
  outk : X.env.scope.kind = .function
  nocell : ∀ y ∈ scope.names, y.2 ≠ .cell
  free : ∀ y ∈ scope.names, y.2 = .free → X.env.kindOf y.1 = some .cell
  names : ∀ y ∈ scope.names, y.2 = .local → scope.names.lookup y.1 = some .local
  owns : ∀ x ∈ own, ∀ y ∈ scope.names, y.1 = x → y.2 = .local
  nb : NB = own ++ cap.map fun i => X.N.getD i ""
  caps : ∀ i ∈ cap, i < X.N.length ∧ scope.names.lookup (X.N.getD i "") = some .free
theorem blk_of {X : Cx} {scope sc : Scope} {NB own : List Str} {cap : List Nat} (hs : X.env.scope = sc) (h : blkOk scope sc NB own cap X.N = true) : Blk X scope NB own cap := by
  unfold blkOk at h
  simp only [Bool.and_eq_true] at h
  obtain ⟨⟨⟨⟨⟨h1, h2⟩, h3⟩, h4⟩, h5⟩, h6⟩ := h
  rw [List.all_eq_true] at h3 h4 h6
  subst hs
  refine ⟨by simpa using h1, by simpa using h2, fun y hy e => ?_, fun y hy e => ?_, fun y hy e => ?_, fun x hx y hy e => ?_, by simpa using h5, fun i hi => ?_⟩
  · have := h3 y hy
    rw [e] at this
    exact absurd this (by simp)
  · have := h3 y hy
    rw [e] at this
    show X.env.scope.names.lookup y.1 = some .cell
    simpa using this
  · have := h3 y hy
    rw [e] at this
    simpa using this
  · have := h4 x hx
    simp only [Bool.and_eq_true, List.all_eq_true] at this
    have q := this.2 y hy
    subst e
    simpa using q
  · have := h6 i hi
    simp only [Bool.and_eq_true] at this
    exact ⟨of_decide_eq_true this.1, by simpa using this.2⟩

/-- the block's context -/
def cxB (X : Cx) (NB own : List Str) (scope : Scope) (C : Addr) (fp : List Addr) (s₀ : Shared) (H₀ : Hp) : Cx where
  prog := X.prog
  w := X.w
  K := X.K
  mg := X.mg
  base := X.base
  A := X.A
  N := NB
  s₀ := s₀
  H₀ := H₀
  env := compEnvC scope (clOf X.env.cells scope.names []) C X.env
  outer := X.stack
  stack := X.stack
  ex := fp
  fn := fun x => own.contains x
  calm := X.calm
  pn := []
  xe := fun _ _ => False

theorem relabel_free {env : Env} {x : Str} {k : NameKind} (hk : k = .cell ∨ k = .free) : ∀ {names : List (Str × NameKind)}, (∀ y ∈ names, y.2 ≠ .cell) →
    (names.map fun (n, k) => if (k == NameKind.free && env.scope.kind == .function && env.kindOf n == some .cell) then (n, NameKind.cell) else (n, k)).lookup x = some k → (x, NameKind.free) ∈ names
  | [], _, h => by simp at h
  | (n, q) :: r, hn, h => by
    have ih := @relabel_free env x k hk r fun y hy => hn y (List.mem_cons_of_mem _ hy)
    rw [List.map_cons, List.lookup_cons] at h
    have key : (if (q == NameKind.free && env.scope.kind == .function && env.kindOf n == some .cell) = true then (n, NameKind.cell) else (n, q)).1 = n := by split <;> rfl
    by_cases e : (x == n) = true
    · have en : x = n := by simpa using e
      subst en
      by_cases hq : q = .free
      · subst hq; exact List.mem_cons_self
      · have hqf : (q == NameKind.free) = false := by simpa using hq
        simp only [hqf, Bool.false_and, Bool.false_eq_true, if_false, beq_self_eq_true] at h
        have h' : q = k := Option.some.inj h
        rcases hk with z | z
        · exact absurd (h'.trans z) (hn (x, q) List.mem_cons_self)
        · exact absurd (h'.trans z) hq
    · have e' : (x == n) = false := by simpa using e
      refine List.mem_cons_of_mem _ (ih ?_)
      have e2 : (x == (if (q == NameKind.free && env.scope.kind == .function && env.kindOf n == some .cell) = true then (n, NameKind.cell) else (n, q)).1) = false := by rw [key]; exact e'
      rw [e2] at h
      exact h
theorem relabel_cap {env : Env} {x : Str} (hk : env.scope.kind = .function) (hc : env.kindOf x = some .cell) : ∀ {names : List (Str × NameKind)}, names.lookup x = some .free →
    (names.map fun (n, k) => if (k == NameKind.free && env.scope.kind == .function && env.kindOf n == some .cell) then (n, NameKind.cell) else (n, k)).lookup x = some .cell
  | [], h => by simp at h
  | (n, q) :: r, h => by
    have ih := @relabel_cap env x hk hc r
    rw [List.lookup_cons] at h
    rw [List.map_cons, List.lookup_cons]
    by_cases e : (x == n) = true
    · have en : x = n := by simpa using e
      subst en
      rw [e] at h
      have hq : q = .free := Option.some.inj h
      subst hq
      simp [hk, hc]
    · have e' : (x == n) = false := by simpa using e
      rw [e'] at h
      have key : (if (q == NameKind.free && env.scope.kind == .function && env.kindOf n == some .cell) = true then (n, NameKind.cell) else (n, q)).1 = n := by split <;> rfl
      have e2 : (x == (if (q == NameKind.free && env.scope.kind == .function && env.kindOf n == some .cell) = true then (n, NameKind.cell) else (n, q)).1) = false := by rw [key]; exact e'
      rw [e2]
      exact ih h

/-- the block's slots: its own names, then what it takes along -/
def stB (own : List Str) (cap : List Nat) (σ : St) : St := (own.map fun _ => none) ++ cap.map fun i => (σ[i]?).getD none

section
variable {X : Cx} {pins : List (Addr × Obj)} {σ : St} {H : Hp} {s : Shared} {scope : Scope} {NB own : List Str} {cap : List Nat} {fp : List Addr} {C : Addr}
theorem Blk.cells (B : Blk X scope NB own cap) (ok : X.Ok) {x : Str} {c : Addr} (h : (clOf X.env.cells scope.names []).lookup x = some c) : X.env.cells.lookup x = some c ∧ (x, NameKind.free) ∈ scope.names := by
  rcases clOf_mem (PySem.mem_of_lookup h) with q | ⟨q, e⟩
  · simp at q
  · obtain ⟨d, hd⟩ := ok.has x (.inl (B.free (x, .free) q rfl))
    have e : c = (X.env.cells.lookup x).getD 0 := e
    rw [hd] at e
    refine ⟨?_, q⟩
    rw [hd, e]; rfl
theorem Blk.cell (B : Blk X scope NB own cap) (ok : X.Ok) {x : Str} (h : (x, NameKind.free) ∈ scope.names) : ∃ c, (clOf X.env.cells scope.names []).lookup x = some c := lookup_of_mem (clOf_has h)
/-- the block begins -/
theorem Blk.start (B : Blk X scope NB own cap) (I : Inv X pins σ H s) (hf : ∀ b ∈ fp, FpOk X pins H b) (hfs : ∀ b ∈ fp, ∃ o, s.heap.get? b = some o) {h' : Heap} {tk : Nat} {m : Str → Option Value} (hC : s.heap.objs.size ≤ C)
    (k : ∀ b o, s.heap.get? b = some o → h'.get? b = some o) (hn : h'.Ns C m) :
    Inv (cxB X NB own scope C fp s H) [] (stB own cap σ) H { s with heap := h', toks := tk } := by
  have hlen : NB.length = own.length + cap.length := by rw [B.nb]; simp
  have okB : (cxB X NB own scope C fp s H).Ok := by
    refine ⟨I.ok.mod, B.kind, I.ok.glob, I.ok.blt, hC, fun x y c h1 h2 => I.ok.inj x y c (B.cells I.ok h1).1 (B.cells I.ok h2).1, fun x hx => ?_, fun x c h1 h2 => ?_, I.ok.hd, I.ok.frames, .inl rfl, fun b hb => ⟨?_, fun x c h => ?_⟩, I.bs, Nat.le_trans I.ok.bsz I.sz, fun b o e hb => ?_, fun b hb z => ?_, I.stack, I.stkFree⟩
    · have : (x, NameKind.free) ∈ scope.names := by
        rcases hx with z | z
        · exact relabel_free (.inl rfl) B.nocell z
        · exact relabel_free (.inr rfl) B.nocell z
      exact B.cell I.ok this
    · have hx : x ∈ own := by simpa [cxB] using h1
      have q := B.owns x hx _ (B.cells I.ok h2).2 rfl
      exact absurd q (by simp)
    · obtain ⟨o, e⟩ := hfs b hb
      exact Nat.ne_of_lt (Nat.lt_of_lt_of_le (Heap.lt_size e) hC)
    · exact (hf b hb).2.2.2.2.1 x c (B.cells I.ok h).1
    · have hb : b ∈ fp := hb
      rcases (hf b hb).2.2.2.1 with z | z
      · exact I.ok.noex b o e z
      · exact absurd (Nat.lt_of_lt_of_le (Heap.lt_size e) (Nat.le_trans I.ok.bsz z)) (Nat.lt_irrefl _)
    · rcases List.mem_cons.mp (I.stkSub b z) with z | z
      · exact (hf b hb).2.1 z
      · exact (hf b hb).2.2.1 z
  refine ⟨okB, rfl, I.bare, Un.kept k, ⟨m, hn, fun i x v e1 e2 e3 => ?_⟩, fun x c h => ?_, I.hok.fresh hC, fun x c h => I.freeC x c (B.cells I.ok h).1, fun p hp => absurd (show p ∈ ([] : List (Addr × Obj)) from hp) (by simp), I.hok.kept k, ?_⟩
  · have e1 : NB[i]? = some x := e1
    have hi : ¬ i < own.length := fun hi => by
      unfold stB at e2
      rw [List.getElem?_append_left (by simpa using hi), List.getElem?_map] at e2
      cases q : own[i]? <;> rw [q] at e2 <;> cases e2
    unfold stB at e2
    rw [List.getElem?_append_right (by simpa using hi), List.getElem?_map] at e2
    rw [B.nb, List.getElem?_append_right (by omega), List.getElem?_map] at e1
    simp only [List.length_map] at e2
    cases q : cap[i - own.length]? with
    | none => rw [q] at e1; cases e1
    | some j =>
      rw [q] at e1 e2
      have ex : X.N.getD j "" = x := Option.some.inj e1
      have ev : (σ[j]?).getD none = some v := Option.some.inj e2
      obtain ⟨hj, hjf⟩ := B.caps j (List.mem_of_getElem? q)
      rw [ex] at hjf
      have hN : X.N[j]? = some x := by rw [← ex, List.getD_eq_getElem?_getD, List.getElem?_eq_getElem hj]; rfl
      have hσ : σ[j]? = some (some v) := by
        cases z : σ[j]? with
        | none => rw [z] at ev; cases ev
        | some u => rw [z] at ev; exact congrArg some ev
      have hmem : (x, NameKind.free) ∈ scope.names := PySem.mem_of_lookup hjf
      have hkc := B.free _ hmem rfl
      obtain ⟨m0, hn0, hl⟩ := I.loc
      obtain ⟨u, r, l⟩ := hl j x v hN hσ (.inr (.inl hkc))
      refine ⟨u, r, .inr ⟨.inl (relabel_cap B.outk hkc hjf), ?_⟩⟩
      obtain ⟨c, hc⟩ := B.cell I.ok hmem
      refine ⟨c, hc, ?_⟩
      rcases l with ⟨z, _⟩ | ⟨_, c', hc', ⟨oc, hoc, hd⟩⟩
      · rw [show X.env.kindOf x = some .cell from hkc] at z; cases z
      · have := (B.cells I.ok hc).1
        rw [hc'] at this
        have : c' = c := Option.some.inj this
        subst this
        exact ⟨oc, k _ _ hoc, hd⟩
  · obtain ⟨v, oc, hoc, hd⟩ := I.cell x c (B.cells I.ok h).1
    exact ⟨v, oc, k _ _ hoc, hd⟩
  · show (stB own cap σ).length = NB.length
    unfold stB
    rw [hlen]; simp
/-- the block ends: its list at D -/
theorem Blk.done (B : Blk X scope NB own cap) (I : Inv X pins σ H s) (hf : ∀ b ∈ fp, FpOk X pins H b) {σB : St} {H' : Hp} {s' : Shared} {h'' : Heap} {D : Addr} {ys : List V} {its : List Value} {n : Nat} (hC : s.heap.objs.size ≤ C) (hD : s.heap.objs.size ≤ D) (hDC : D ≠ C)
    (J : Inv (cxB X NB own scope C fp s H) [] σB H' s') (hn : H' D = none) (e : s'.heap.get? D = some { cls := .type "list", data := .seq its.toArray n }) (hv : Vals ys its) (hz : ys.length ≤ sizeLine)
    (sb : Heap.SameBut C s'.heap h'') : Inv X pins σ (upd H' D (.lst ys)) { s' with heap := h'' } := by
  have un : Un (frs X.stack) fp H H' s.heap s'.heap := J.base
  have neC : ∀ {b o}, s.heap.get? b = some o → b ≠ C := fun q => Nat.ne_of_lt (Nat.lt_of_lt_of_le (Heap.lt_size q) hC)
  have neD : ∀ {b o}, s.heap.get? b = some o → b ≠ D := fun q => Nat.ne_of_lt (Nat.lt_of_lt_of_le (Heap.lt_size q) hD)
  have hCn : H' C = none := J.free
  refine I.call' (s' := { s' with heap := h'' }) (ch := fp) J.os ⟨fun b o q n hb hx => ?_, fun b o q n hb hx => ?_, fun b o q n hx => ?_, fun b o q hx => ?_, fun b xs q => ?_, fun b o u q => ?_, fun b ps q => ?_⟩ (fun b u q => ?_) J.bare fun b hb => ?_
  · exact (sb.2 b (neC q)).trans (un.keep b o q n hb hx)
  · obtain ⟨sl, r⟩ := un.slot b o q n hb hx
    exact ⟨sl, (sb.2 b (neC q)).trans r⟩
  · rw [upd_ne (neD q)]
    exact un.free b o q n hx
  · obtain ⟨o', r⟩ := un.there b o q hx
    exact ⟨o', (sb.2 b (neC q)).trans r⟩
  · have r := un.tups b xs q
    rw [upd_ne (ne_of_none r hn)]
    exact r
  · have r := un.frzs b o u q
    rw [upd_ne (ne_of_none r hn)]
    exact r
  · obtain ⟨more, r⟩ := un.tbls b ps q
    exact ⟨more, by rw [upd_ne (ne_of_none r hn)]; exact r⟩
  · by_cases hb : b = D
    · subst hb
      rw [upd_same] at q
      cases q
      exact ⟨hz, its, n, hv, (sb.2 b hDC).trans e⟩
    · rw [upd_ne hb] at q
      refine (J.hok b u q).stay (fun c v hc r => (sb.2 c ?_).trans r) (fun c r => ?_) fun c xs r => ?_
      · rcases hc with z | z
        · rw [z]; exact ne_of_none q hCn
        · exact ne_of_none z hCn
      · rw [upd_ne (ne_of_none r hn)]; exact r
      · rw [upd_ne (ne_of_none r hn)]; exact r
  · obtain ⟨_, f1, _, f3, f4, f5⟩ := hf b hb
    exact ⟨f3, f1, f4, f5⟩
end

/-- the tests of a clause, in a row -/
def PIf (X : Cx) (ifs : List Expr) (t : TT) : Prop :=
  ∀ (pins : List (Addr × Obj)) (s : Shared) (σ : St) (H : Hp) (Q : Bool → Hp → Prop), Inv X pins σ H s → t σ H Q →
    wpAny (model X.prog X.w) X.A (forIn ifs true fun c r => if r = true then do let ok ← isTrue c X.env (eval c X.env); pure (ForInStep.yield ok) else pure (ForInStep.yield r)) (TP X pins σ Q) X.xe s
def tYes : TT := fun _ H Q => Q true H
theorem pifs_nil {X : Cx} : PIf X [] tYes := fun _ _ _ H _ I h => wpAny_tests_nil ⟨H, I, h⟩
theorem pifs_one {X : Cx} {c : Expr} {t : TT} (h : PT X c t) : PIf X [c] t := fun pins s σ H Q I q => wpAny_tests_one (h pins s σ H Q I q)

section
variable {prog : Program} {w : World} {A : Around} {R : Result → Shared → Prop} {s : Shared}
abbrev noE : Value → Shared → Prop := fun _ _ => False
theorem comp_loop {elt tg iter : Expr} {ifs : List Expr} {scope : Scope} {pos : Pos} {it acc : Value} {env : Env} (I : Nat → Shared → Prop)
    (turn : ∀ n s, I n s → wpAny (model prog w) A (pyNext it) (fun r s₁ => match r with
      | none => R (.ok .next) s₁
      | some v => wpAny (model prog w) A (letOwnedTupleGo tg it v) (fun _ s₀ => wpAny (model prog w) A (assign tg env v) (fun _ s₂ =>
          wpAny (model prog w) A (forIn ifs true fun c r => if r = true then do let ok ← isTrue c env (eval c env); pure (ForInStep.yield ok) else pure (ForInStep.yield r)) (fun ok s₃ =>
            if ok = true then wpAny (model prog w) A (eval elt env) (fun x s₄ => wpAny (model prog w) A (call (.builtin "list.append") [acc, x]) (fun _ s₅ => ∃ m, m < n ∧ I m s₅) noE s₄) noE s₃
            else ∃ m, m < n ∧ I m s₃) noE s₂) noE s₀) noE s₁) noE s)
    (n : Nat) (h : I n s) : codeAny (model prog w) A (.compLoop (.ListComp elt [⟨tg, iter, ifs, 0⟩] scope pos) 0 it acc env) R s := by
  refine codeAny_loop rfl I (fun n s hI => ?_) n h
  show wpAny _ A ((compTurn (.ListComp elt [⟨tg, iter, ifs, 0⟩] scope pos) 0 it acc env).onRaise (fun x => do noteFrame x env; theTreesLotGoes x)) _ _ s
  refine wpAny_noted ?_
  rw [compTurn_list]
  refine wpAny_bind (wpAny_standAt (wpAny_bind (wpAny_mono (turn n s hI) (fun r s₁ h₁ => ?_) fun _ _ z => False.elim z)))
  cases r with
  | none => exact wpAny_pure h₁
  | some v =>
    refine wpAny_bind (wpAny_mono h₁ (fun _ s₀ h₀ => wpAny_bind (wpAny_mono h₀ (fun _ s₂ h₂ => wpAny_bind (wpAny_mono h₂ (fun ok s₃ h₃ => ?_) fun _ _ z => False.elim z)) fun _ _ z => False.elim z)) fun _ _ z => False.elim z)
    cases ok with
    | false => exact wpAny_pure ⟨rfl, h₃⟩
    | true => exact wpAny_bind (wpAny_bind (wpAny_mono h₃ (fun x s₄ h₄ => wpAny_bind (wpAny_mono h₄ (fun _ s₅ h₅ => wpAny_pure (wpAny_pure ⟨rfl, h₅⟩)) fun _ _ z => False.elim z)) fun _ _ z => False.elim z))
end

/-- [e for x in it if t]: W is the invariant by the turn, a measure, and what stands in the new list -/
def CompW (own : List Str) (cap : List Nat) (g : TG) (ti : TT) (te : TE) (Q : VK) (σ : St) (J : It) (H1 : Hp) : Prop := ∃ W : Nat → Nat → List V → St → Hp → Prop, (∃ m, W 0 m [] (stB own cap σ) H1) ∧ ∀ i m ys σ H, W i m ys σ H →
  (J.stop i H ∧ ys.length ≤ sizeLine ∧ ∀ D, H D = none → Q (.ref D) (upd H D (.lst ys))) ∨
  (J.go i H ∧ ys.length < sizeLine ∧ ∀ x H', J.yld i H x H' → g x σ H' fun σ2 H2 => ti σ2 H2 fun b H3 => if b = true then te σ2 H3 fun y H4 => ∃ m', m' < m ∧ W (i + 1) m' (ys ++ [y]) σ2 H4 else ∃ m', m' < m ∧ W (i + 1) m' ys σ2 H3)
def tComp (own : List Str) (cap : List Nat) (wi : TI) (g : TG) (ti : TT) (te : TE) : TE := fun σ H Q => wi σ H fun J H1 => CompW own cap g ti te Q σ J H1

theorem pe_comp {X : Cx} {elt iter tg : Expr} {ifs : List Expr} {scope : Scope} {pos : Pos} {NB own : List Str} {cap : List Nat} {wi : TI} {g : TG} {ti : TT} {te : TE} (B : Blk X scope NB own cap) (hc : X.calm = true) (hi : PI X tg iter wi)
    (hg : ∀ C fp s₀ H₀, PG (cxB X NB own scope C fp s₀ H₀) tg g) (ht : ∀ C fp s₀ H₀, PIf (cxB X NB own scope C fp s₀ H₀) ifs ti) (he : ∀ C fp s₀ H₀, PE (cxB X NB own scope C fp s₀ H₀) elt te)
    (hs : ∀ x, foldedSetIterable iter X.env x = pure x := by intro _; rfl) : PE X (.ListComp elt [⟨tg, iter, ifs, 0⟩] scope pos) (tComp own cap wi g ti te) := by
  intro pins s σ H Q I0 h
  rw [eval_ListComp]
  have hclos := closureFor_is (env := X.env) (scope := scope) fun y hy e => I0.ok.has y.1 (.inl (B.free y hy e))
  refine wpAny_comprehension_free (use := none) rfl hs hclos B.kind B.names (thn (hi pins s σ H _ I0 h) fun v s1 h1 => thn h1 fun itv s2 h2 => ?_)
  obtain ⟨it, fp, tn, J, H2, rfl, I, T, st2, f2, W, ⟨m0, w0⟩, turn⟩ := h2
  refine wpAny_newList ?_
  refine wpAny_newFunctionEnv B.nocell (by intro y hy; simp at hy) (fun h₁ hns₁ hsb₁ => ?_) B.kind
  dsimp only at hns₁ hsb₁ ⊢
  generalize hP : s2.heap.push { cls := .type "list", dict := none, data := .seq ([] : List Value).toArray } = P at hns₁ hsb₁ ⊢
  have hC : P.objs.size = s2.heap.objs.size + 1 := by rw [← hP, Heap.size_push]
  have hDC : s2.heap.objs.size ≠ P.objs.size := by rw [hC]; exact Nat.ne_of_lt (Nat.lt_succ_self _)
  have hCle : s2.heap.objs.size ≤ P.objs.size := by rw [hC]; exact Nat.le_succ _
  have old : ∀ b o, s2.heap.get? b = some o → h₁.get? b = some o := fun b o e => by
    refine (hsb₁.2 b ?_).trans (Heap.get?_push_of_some _ (hP ▸ Heap.get?_push_of_some _ e))
    exact Nat.ne_of_lt (Nat.lt_of_lt_of_le (Heap.lt_size e) hCle)
  have hD : h₁.get? s2.heap.objs.size = some { cls := .type "list", data := .seq ([] : List Value).toArray 0 } := by
    refine (hsb₁.2 _ hDC).trans (Heap.get?_push_of_some _ ?_)
    rw [← hP]
    exact Heap.get?_push_size _ rfl
  have hfs : ∀ b ∈ fp, ∃ o, s2.heap.get? b = some o := fun b hb => let ⟨o, e, _⟩ := T.obj _ _ st2 b hb; ⟨o, e⟩
  have st4 : tn 0 h₁ := T.keep _ _ _ st2 fun b _ o e => old b o e
  generalize htk : s2.toks + ([] : List (Str × Value)).length = tk4
  have I4 := B.start (C := P.objs.size) (tk := tk4) I f2 hfs hCle old hns₁
  have fOk : ∀ {H' : Hp} {b : Addr} {ob : Obj}, b ∈ fp → H' b = none → FpOk (cxB X NB own scope P.objs.size fp s2 H2) [(s2.heap.objs.size, ob)] H' b := fun {H' b ob} hb hn => by
    obtain ⟨o, e⟩ := hfs b hb
    refine ⟨hn, (I4.ok.exf b hb).1, I4.ok.exfs b hb, .inl hb, (I4.ok.exf b hb).2, fun p hp => ?_⟩
    have ep : p = (s2.heap.objs.size, ob) := List.mem_singleton.mp (show p ∈ [(s2.heap.objs.size, ob)] from hp)
    rw [ep]
    exact fun z => absurd (Heap.lt_size e) (by rw [← z]; exact Nat.lt_irrefl _)
  have dnf : s2.heap.objs.size ∉ frs X.stack := fun z => by
    rcases List.mem_cons.mp (I.stkSub _ z) with z | z
    · exact absurd I.lt (by rw [← z]; exact Nat.lt_irrefl _)
    · exact I.nofs (Nat.le_refl _) z
  have I3D : ∀ {σ3 : St} {H3 : Hp} {s3 : Shared} {its : List Value} {k : Nat}, Inv (cxB X NB own scope P.objs.size fp s2 H2) [] σ3 H3 s3 → s3.heap.get? s2.heap.objs.size = some { cls := .type "list", data := .seq its.toArray k } → H3 s2.heap.objs.size = none →
      Inv (cxB X NB own scope P.objs.size fp s2 H2) [(s2.heap.objs.size, { cls := .type "list", data := .seq its.toArray k })] σ3 H3 s3 := fun I3 e n => I3.pins_of fun p hp => by
    have ep := List.mem_singleton.mp hp
    subst ep
    exact ⟨e, n, hDC, dnf, fun v z => by cases z⟩
  have ndf : s2.heap.objs.size ∉ fp := fun z => by
    obtain ⟨o, e⟩ := hfs _ z
    exact absurd (Heap.lt_size e) (Nat.lt_irrefl _)
  have nCD : ∀ x c, (cxB X NB own scope P.objs.size fp s2 H2).env.cells.lookup x = some c → c ≠ s2.heap.objs.size := fun x c e z => by
    obtain ⟨v, o, ho, _⟩ := I.cell x c (B.cells I.ok e).1
    rw [z] at ho
    exact absurd (Heap.lt_size ho) (Nat.lt_irrefl _)
  have loop : ∀ s₃ : Shared, s₃ = { s2 with heap := h₁, toks := tk4 } → codeAny (model X.prog X.w) X.A (.compLoop (.ListComp elt [⟨tg, iter, ifs, 0⟩] scope pos) 0 (.ref it) (.ref s2.heap.objs.size) (cxB X NB own scope P.objs.size fp s2 H2).env)
      (compPost (model X.prog X.w) X.A X.xe none (EP X pins σ Q) (.ref s2.heap.objs.size) P.objs.size) s₃ := by
    rintro s₃ rfl
    refine comp_loop (fun n s' => ∃ i σB H' ys its k, Inv (cxB X NB own scope P.objs.size fp s2 H2) [] σB H' s' ∧ tn i s'.heap ∧ (∀ b ∈ fp, H' b = none) ∧ s'.heap.get? s2.heap.objs.size = some { cls := .type "list", data := .seq (its : List Value).toArray k } ∧ Vals ys its ∧ H' s2.heap.objs.size = none ∧ W i n ys σB H') ?_ m0
      ⟨0, stB own cap σ, H2, [], [], 0, I4, st4, fun b hb => (f2 b hb).1, hD, .nil, I.hok.fresh (Nat.le_refl _), w0⟩
    rintro n s3 ⟨i, σ3, H3, ys, its, k, I3, st3, fr3, hD3, rv, hn3, w3⟩
    rcases turn i n ys σ3 H3 w3 with ⟨stop, hz, q⟩ | ⟨go, hz, step⟩
    · refine thn (T.done (cxB X NB own scope P.objs.size fp s2 H2) rfl rfl rfl hc i _ s3 σ3 H3 noE (I3D I3 hD3 hn3) (fun b hb => fOk hb (fr3 b hb)) st3 stop) fun r s4 ⟨hr, I4'⟩ => ?_
      subst hr
      have hD4 : s4.heap.get? s2.heap.objs.size = some { cls := .type "list", data := .seq (its : List Value).toArray k } := (I4'.pin (s2.heap.objs.size, _) (List.mem_append_right _ (List.mem_singleton.mpr rfl))).1
      have I5 : Inv (cxB X NB own scope P.objs.size fp s2 H2) [] σ3 H3 s4 := I4'.pins_of fun p hp => absurd (show p ∈ ([] : List (Addr × Obj)) from hp) (by simp)
      obtain ⟨mC, hnC, _⟩ := I5.loc
      exact ⟨mC, hnC, fun h'' sb => ⟨.ref s2.heap.objs.size, _, B.done I f2 hCle (Nat.le_refl _) hDC I5 hn3 hD4 rv hz sb, rfl, q _ hn3⟩⟩
    · refine thn (T.item (cxB X NB own scope P.objs.size fp s2 H2) rfl rfl rfl hc i _ s3 σ3 H3 noE (I3D I3 hD3 hn3) (fun b hb => fOk hb (fr3 b hb)) st3 go) fun r s4 ⟨u, hr, h4⟩ => ?_
      subst hr
      refine thn h4 fun _ s5 ⟨x, H5, I5, r5, y5, st5, fr5⟩ => ?_
      have I5' := I5.pinned (fun b hb => fOk hb (fr5 b hb)) (T.obj _ _ st5)
      refine thn (hg _ fp s2 H2 _ s5 σ3 H5 x u _ I5' r5 (step x H5 y5)) fun _ s6 ⟨σ6, H6, I6, q6⟩ => ?_
      refine thn (ht _ fp s2 H2 _ s6 σ6 H6 _ I6 q6) fun b s7 ⟨H7, I7, q7⟩ => ?_
      have pinned : ∀ {σ8 : St} {H8 : Hp} {s8 : Shared}, Inv (cxB X NB own scope P.objs.size fp s2 H2) ([(s2.heap.objs.size, { cls := .type "list", data := .seq (its : List Value).toArray k })] ++ pinsAt fp s5.heap) σ8 H8 s8 →
          tn (i + 1) s8.heap ∧ (∀ b ∈ fp, H8 b = none) ∧ s8.heap.get? s2.heap.objs.size = some { cls := .type "list", data := .seq (its : List Value).toArray k } ∧ H8 s2.heap.objs.size = none := fun {σ8 H8 s8} I8 => by
        refine ⟨T.keep _ _ _ st5 fun b hb o e => (I8.pin (b, o) (List.mem_append_right _ (List.mem_append_right _ (mem_pinsAt hb e)))).1, fun b hb => ?_, ?_, ?_⟩
        · obtain ⟨o, e, d⟩ := T.obj _ _ st5 b hb
          exact (I8.pin (b, o) (List.mem_append_right _ (List.mem_append_right _ (mem_pinsAt hb e)))).2.1
        · exact (I8.pin (s2.heap.objs.size, _) (List.mem_append_right _ (List.mem_append_left _ (List.mem_singleton.mpr rfl)))).1
        · exact (I8.pin (s2.heap.objs.size, _) (List.mem_append_right _ (List.mem_append_left _ (List.mem_singleton.mpr rfl)))).2.1
      have nopin : ∀ {pp : List (Addr × Obj)} {σ8 : St} {H8 : Hp} {s8 : Shared}, Inv (cxB X NB own scope P.objs.size fp s2 H2) pp σ8 H8 s8 → Inv (cxB X NB own scope P.objs.size fp s2 H2) [] σ8 H8 s8 := fun I8 => I8.pins_of fun p hp => absurd (show p ∈ ([] : List (Addr × Obj)) from hp) (by simp)
      cases b with
      | false =>
        rw [if_neg Bool.false_ne_true] at q7 ⊢
        obtain ⟨m', hm, w7⟩ := q7
        obtain ⟨p1, p2, p3, p4⟩ := pinned I7
        exact ⟨m', hm, i + 1, σ6, H7, ys, its, k, nopin I7, p1, p2, p3, rv, p4, w7⟩
      | true =>
        rw [if_pos rfl] at q7 ⊢
        refine thn (he _ fp s2 H2 _ s7 σ6 H7 _ I7 q7) fun yv s8 ⟨y, H8, I8, r8, m', hm, w8⟩ => ?_
        obtain ⟨p1, p2, p3, p4⟩ := pinned I8
        refine call_meets F.slot_list_append ⟨_, p3, rfl⟩ F.entry_list_append (F.args_list_append_2 _ _) (PySem.list_append s2.heap.objs.size its.toArray k yv (by rw [List.size_toArray, ← rv.length]; omega)) ⟨p3, ?_⟩
        have q := PySem.IsL.update p3 fun a => a.push yv
        have ea : its.toArray.push yv = (its ++ [yv]).toArray := by simp
        rw [ea] at q
        have I9 : Inv (cxB X NB own scope P.objs.size fp s2 H2) [] σ6 H8 { s8 with heap := s8.heap.update s2.heap.objs.size (Obj.mapSeq fun a => a.push yv), toks := s8.toks } :=
          (nopin I8).turned (it := s2.heap.objs.size) (fun b o hb e => (Heap.get?_update_other s8.heap _ (Ne.symm hb)).trans e) p4 hDC (.inr (Nat.le_refl _)) (fun x c e => nCD x c e) fun p hp => absurd (show p ∈ ([] : List (Addr × Obj)) from hp) (by simp)
        refine ⟨m', hm, i + 1, σ6, H8, ys ++ [y], its ++ [yv], _, I9, ?_, p2, q, rv.append (.cons r8 .nil), p4, w8⟩
        refine T.keep _ _ _ p1 fun b hb o e => (Heap.get?_update_other s8.heap _ ?_).trans e
        intro z
        rw [z] at ndf
        exact ndf hb
  exact codeAny_compStart_list (loop _ rfl) (T.self X.A 0 _ _ _ st4 (loop _ rfl))

/-- .. over n items: Pv by the turn -/
theorem comp_by {own : List Str} {cap : List Nat} {J : It} {g : TG} {ti : TT} {te : TE} {σ : St} {H : Hp} {Q : VK} (n : Nat) (Pv : Nat → List V → St → Hp → Prop) (h0 : Pv 0 [] (stB own cap σ) H) (hz : ∀ i ys σ H, i ≤ n → Pv i ys σ H → ys.length ≤ i) (hn : n ≤ sizeLine)
    (hgo : ∀ i ys σ H, i < n → Pv i ys σ H → J.go i H) (hst : ∀ ys σ H, Pv n ys σ H → J.stop n H)
    (hs : ∀ i ys σ H x H' (N : List V → St → Hp → Prop), i < n → Pv i ys σ H → J.yld i H x H' → (∀ ys' σ' H'', Pv (i + 1) ys' σ' H'' → N ys' σ' H'') → g x σ H' fun σ2 H2 => ti σ2 H2 fun b H3 => if b = true then te σ2 H3 fun y H4 => N (ys ++ [y]) σ2 H4 else N ys σ2 H3)
    (hd : ∀ ys σ H D, Pv n ys σ H → H D = none → Q (.ref D) (upd H D (.lst ys))) :
    CompW own cap g ti te Q σ J H := by
  refine ⟨fun i m ys σ H => m = n - i ∧ i ≤ n ∧ Pv i ys σ H, ⟨n, by simp, Nat.zero_le _, h0⟩, ?_⟩
  rintro i m ys σ H ⟨rfl, hi, p⟩
  have hl := hz i ys σ H hi p
  by_cases hlt : i < n
  · refine .inr ⟨hgo i ys σ H hlt p, by omega, fun x H' y => ?_⟩
    exact hs i ys σ H x H' (fun ys' σ' H'' => ∃ m', m' < n - i ∧ m' = n - (i + 1) ∧ i + 1 ≤ n ∧ Pv (i + 1) ys' σ' H'') hlt p y fun ys' σ' H'' q => ⟨n - (i + 1), by omega, rfl, hlt, q⟩
  · have e : i = n := by omega
    subst e
    exact .inl ⟨hst ys σ H p, by omega, fun D hD => hd ys σ H D p hD⟩
end L2
set_option Elab.async false
set_option linter.all false
set_option maxRecDepth 100000
/-! ### texts: loops, slices, methods -/
namespace L2
open PySem PySem.Spec PyProof.Rows

/-- the signs of a text, one after another -/
def Its (z : Str) : It := ⟨fun i _ => i < z.cps.size, fun i H x H' => H' = H ∧ ∃ c, z.cps[i]? = some c ∧ x = .str ⟨#[c]⟩, fun i _ => i = z.cps.size⟩
/-- from a walk by the library's own rules, over one record -/
theorem turn_of_walks {P : Program} {w : World} {K : PySem.W.Frag} {tg : Expr} {it n : Nat} {Pv : Nat → Value → Prop} {st : Nat → Heap → Prop} {J : It} {T : String} {fl : Nat → Array Value}
    (W : ∀ A : Around, A.handled = none → Walks P w A it [it] [it] n Pv st) (hst : ∀ i h, st i h → ∃ o, h.get? it = some o ∧ o.cls = .type T ∧ o.data = .fields (fl i))
    (hT : ["enumerate", "zip", "dict_itemiterator", "dict_reverseitemiterator", "odict_iterator", "itertools.zip_longest", "itertools.pairwise"].contains T = false)
    (hgo : ∀ i H, J.go i H → i < n) (hstop : ∀ i H, J.stop i H → i = n) (hy : ∀ i H u, J.go i H → Pv i u → ∃ x, RelV x u ∧ J.yld i H x H)
    (hself : ∀ (A : Around) (i : Nat) (s : Shared) (Q : Value → Shared → Prop) (E : Value → Shared → Prop), st i s.heap → Q (.ref it) s → wpAny (model P w) A (pyIter (.ref it)) Q E s) : Turn P w K tg J [it] it st where
  mem := by simp
  obj := fun i h s b hb => by
    have e : b = it := by simpa using hb
    subst e
    obtain ⟨o, e, c, d⟩ := hst i h s
    exact ⟨o, e, fun v z => by rw [d] at z; cases z⟩
  keep := fun i h h' s k => (W {} rfl).frame i h h' s k
  item := by
    intro X hP hw hK hc i pins s σ H E I hf s0 hg
    subst hP hw hK
    obtain ⟨f0, f1, f2, f3, f4, f5⟩ := hf it (by simp)
    refine (W X.A (I.ok.hd hc)).item i s _ _ (hgo i H hg) s0 fun v h' tk hv st' kk => ?_
    have I1 : Inv X pins σ H { s with heap := h', toks := tk } := I.turned (fun b o hb e => kk b o (by simpa using hb) e) f0 f1 f3 f4 f5
    obtain ⟨o, e, c, d⟩ := hst _ _ st'
    obtain ⟨x, rx, yx⟩ := hy i H v hg hv
    exact ⟨v, rfl, go_of (s := { s with heap := h', toks := tk }) e c d hT ⟨x, H, I1, rx, yx, st', fun b hb => (hf b hb).1⟩⟩
  done := by
    intro X hP hw hK hc i pins s σ H E I hf s0 hg
    subst hP hw hK
    obtain ⟨f0, f1, f2, f3, f4, f5⟩ := hf it (by simp)
    have e := hstop i H hg
    subst e
    exact (W X.A (I.ok.hd hc)).done s _ _ s0 fun h' tk kk => ⟨rfl, I.turned (fun b o hb e => kk b o (by simpa using hb) e) f0 f1 f3 f4 f5⟩
  self := hself

section
variable {X : Cx} {tg : Expr}
def iStr (tl : TE) : TI := fun σ H R => tl σ H fun x H1 => ∃ z, x = .str z ∧ R (Its z) H1
theorem its_yld {z : Str} {i : Nat} {H : Hp} {u : Value} (h : SignAt z i u) : ∃ x, RelV x u ∧ (Its z).yld i H x H := by
  obtain ⟨c, t, e, rfl⟩ := h
  exact ⟨.str ⟨#[c]⟩, ⟨t, rfl⟩, rfl, c, e, rfl⟩
theorem pi_str {l : Expr} {tl : TE} (hl : PE X l tl) : PI X tg l (iStr tl) := by
  intro pins s σ H R I h
  refine thn (hl pins s σ H _ I h) fun v s1 ⟨x, H1, I1, r1, q1⟩ => ?_
  obtain ⟨z, rfl, q⟩ := q1
  obtain ⟨t, rfl⟩ := r1
  have fp : ∀ b ∈ [s1.heap.objs.size], FpOk X pins H1 b := fun b hb => by
    have e : b = s1.heap.objs.size := by simpa using hb
    subst e
    exact I1.fpOk (Nat.le_refl _) (I1.hok.fresh (Nat.le_refl _))
  cases ha : z.cps.all (· < 128)
  · refine wpAny_pyIter_wide ha ⟨s1.heap.objs.size, [s1.heap.objs.size], _, Its z, H1, rfl, I1.kept (t' := s1.toks) fun b o e => Heap.get?_push_of_some _ e,
      turn_of_walks (T := "str_iterator") (fl := fun i => #[.str z t, .int i 0]) (fun A hh => Walks.strWide hh _ z t) (fun i h st => st) (by decide) (fun i H g => g) (fun i H g => g) (fun i H u _ hu => its_yld hu) (fun A i s Q E st h => wpAny_pyIter_striter_wide st h), ⟨_, Heap.get?_push_size _ rfl, rfl, rfl⟩, fp, q⟩
  · refine wpAny_pyIter_ascii ha ⟨s1.heap.objs.size, [s1.heap.objs.size], _, Its z, H1, rfl, I1.kept (t' := s1.toks) fun b o e => Heap.get?_push_of_some _ e,
      turn_of_walks (T := "str_ascii_iterator") (fl := fun i => #[.str z t, .int i 0]) (fun A hh => Walks.strAscii hh _ z t) (fun i h st => st) (by decide) (fun i H g => g) (fun i H g => g) (fun i H u _ hu => its_yld hu) (fun A i s Q E st h => wpAny_pyIter_striter_ascii st h), ⟨_, Heap.get?_push_size _ rfl, rfl, rfl⟩, fp, q⟩

/-- a slice of a text -/
def rSlS : V → Option Int → Option Int → Hp → VK → Prop := fun x lo hi H Q => ∃ z, x = .str z ∧ z.length ≤ sizeLine ∧ Q (.str (Txt.slice z lo hi)) H
theorem sl_str : SlR X rSlS := by
  intro pins s σ H x v vl vu lo hi sl Q I rx hs pl pu h
  obtain ⟨z, rfl, hz, q⟩ := h
  obtain ⟨t, rfl⟩ := rx
  have fin : ∀ (lo hi : Option Int), Q (.str (Txt.slice z lo hi)) H → ∀ t' k, EP X pins σ Q (.str (Txt.slice z lo hi) t') { s with toks := k } := fun lo hi q t' k => ⟨.str _, H, I.tok _, ⟨_, rfl⟩, q⟩
  refine ⟨"str", _, F.slot_str_getitem.lookup, typeIs_str _ _ _, ?_⟩
  cases pl with
  | none =>
    cases pu with
    | none => exact wpAny_getItem_str_slice (l := none) (u := none) (st := none) hs rfl (post_val_or_str ⟨Nat.le_trans (Txt.slice_le z _ _) hz, fun t' k => fin _ _ q t' k⟩)
    | int j uj => exact wpAny_getItem_str_slice (l := none) (u := some (j, uj)) (st := none) hs rfl (post_val_or_str ⟨Nat.le_trans (Txt.slice_le z _ _) hz, fun t' k => fin _ _ q t' k⟩)
  | int i ui =>
    cases pu with
    | none => exact wpAny_getItem_str_slice (l := some (i, ui)) (u := none) (st := none) hs rfl (post_val_or_str ⟨Nat.le_trans (Txt.slice_le z _ _) hz, fun t' k => fin _ _ q t' k⟩)
    | int j uj => exact wpAny_getItem_str_slice (l := some (i, ui)) (u := some (j, uj)) (st := none) hs rfl (post_val_or_str ⟨Nat.le_trans (Txt.slice_le z _ _) hz, fun t' k => fin _ _ q t' k⟩)

/-- methods of a text -/
def rUpper : V → List V → Hp → VK → Prop := fun x vs H Q => ∃ z, x = .str z ∧ vs = [] ∧ z.length ≤ 5592405 ∧ Q (.str (Txt.upper z)) H
def rLower : V → List V → Hp → VK → Prop := fun x vs H Q => ∃ z, x = .str z ∧ vs = [] ∧ z.length ≤ 5592405 ∧ Q (.str (Txt.lower z)) H
theorem mt_upper : MtR X "str.upper" rUpper := by
  intro pins s σ H x vs v us Q I rx rv h
  obtain ⟨z, rfl, rfl, hz, q⟩ := h
  obtain ⟨t, rfl⟩ := rx
  cases rv
  exact SCL.upper hz fun _ => ⟨.str _, H, I.tok _, ⟨_, rfl⟩, q⟩
theorem mt_lower : MtR X "str.lower" rLower := by
  intro pins s σ H x vs v us Q I rx rv h
  obtain ⟨z, rfl, rfl, hz, q⟩ := h
  obtain ⟨t, rfl⟩ := rx
  cases rv
  exact SCL.lower hz fun _ => ⟨.str _, H, I.tok _, ⟨_, rfl⟩, q⟩
theorem strsAre_of : ∀ {ys : List Str} {us : List Value}, Vals (ys.map V.str) us → StrsAre us ys
  | [], _, r => by
    rw [List.map_nil] at r
    cases r
    exact .nil
  | y :: ys, us, r => by
    rw [List.map_cons] at r
    cases r with
    | cons r1 r2 =>
      obtain ⟨t, e⟩ := r1
      subst e
      exact .cons y t (strsAre_of r2)
/-- sep.join(a list of texts) -/
def rJoin (K : PySem.W.Frag) : V → List V → Hp → VK → Prop := fun x vs H Q => ∃ z p ys, x = .str z ∧ vs = [.ref p] ∧ SqL K H p (ys.map V.str) ∧ (ys.map (·.length)).sum + ys.length * z.length ≤ 16777216 ∧ Q (.str (Txt.join z ys)) H
theorem mt_join : MtR X "str.join" (rJoin X.K) := by
  intro pins s σ H x vs v us Q I rx rv h
  obtain ⟨z, p, ys, rfl, rfl, hq, hz, q⟩ := h
  obtain ⟨t, rfl⟩ := rx
  obtain ⟨u, rfl, ru⟩ := vals1 rv
  cases ru
  obtain ⟨its, r, pl, _⟩ := I.list hq
  exact join_list pl.isList (by simpa using strsAre_of r) hz fun t' k => ⟨.str _, H, I.tok _, ⟨_, rfl⟩, q⟩


/-- a text, n times -/
theorem op_mul_str : OpR X (binaryOp .Mult) (fun x y H Q => ∃ z n, x = .str z ∧ y = .int n ∧ MulOk z n ∧ Q (.str (Txt.mul z n)) H) := by
  intro pins s σ H x y v u Q I rx ry h
  obtain ⟨z, n, rfl, rfl, hz, q⟩ := h
  obtain ⟨t, rfl⟩ := rx
  obtain ⟨t', rfl⟩ := ry
  exact SB.mul hz fun t' k => ⟨.str _, H, I.tok _, ⟨_, rfl⟩, q⟩
end

/-- over a text's signs -/
theorem for_str {z : Str} {g : TG} {tb : TS} {D : Ends} {σ : St} {H : Hp} (Pv : Nat → St → Hp → Prop) (h0 : Pv 0 σ H)
    (hs : ∀ i c σ H, z.cps[i]? = some c → Pv i σ H → g (.str ⟨#[c]⟩) σ H fun σ2 H2 => tb { D with nx := Pv (i + 1), ct := Pv (i + 1), bk := D.nx } σ2 H2) (hd : ∀ σ H, Pv z.cps.size σ H → D.nx σ H) :
    ∃ W : Nat → Nat → St → Hp → Prop, (∃ m, W 0 m σ H) ∧ ∀ i m σ H, W i m σ H →
      ((Its z).stop i H ∧ D.nx σ H) ∨ ((Its z).go i H ∧ ∃ N : St → Hp → Prop, (∀ σ' H', N σ' H' → ∃ m', m' < m ∧ W (i + 1) m' σ' H') ∧ ∀ x H', (Its z).yld i H x H' → g x σ H' fun σ2 H2 => tb { D with nx := N, ct := N, bk := D.nx } σ2 H2) := by
  refine ⟨fun i m σ H => m = z.cps.size - i ∧ i ≤ z.cps.size ∧ Pv i σ H, ⟨z.cps.size, by simp, Nat.zero_le _, h0⟩, ?_⟩
  rintro i m σ H ⟨rfl, hi, p⟩
  by_cases hlt : i < z.cps.size
  · refine .inr ⟨hlt, Pv (i + 1), fun σ' H' p' => ⟨z.cps.size - (i + 1), by omega, rfl, hlt, p'⟩, fun x H' y => ?_⟩
    obtain ⟨e, c, hc, ex⟩ := y
    subst e ex
    exact hs i c σ _ hc p
  · have e : i = z.cps.size := by omega
    subst e
    exact .inl ⟨rfl, hd σ H p⟩
end L2
set_option Elab.async false
set_option linter.all false
set_option maxRecDepth 100000
namespace PySem
open Sem (wp)
open Builtin Builtin.SmallTypes
namespace F
theorem lookup_str_reversed : typeLookup (.type "str") "__reversed__" = pure none := by rw [typeLookup_type, builtinLookup_eq_fast]; kernel_rfl
theorem slot_rvs_init : Slot "reversed" "__init__" "object.__init__" :=
  .of (owner := "object") (n := "__init__") (by rw [typeLookup_type, builtinLookup_eq_fast]; kernel_rfl) (by decide +kernel) (by decide +kernel) (by decide +kernel)
    (by first | exact .inl (by decide +kernel) | exact .inr (by decide +kernel)) (by rw [isSubtype_type]; kernel_rfl)
theorem called_rvs : TypeCalled "reversed" "reversed.__new__" "object.__init__" :=
  ⟨by decide +kernel, create_reversed, ⟨_, _, mro_reversed⟩, made_reversed, plain_reversed_new, sub_reversed_self, slot_rvs_init⟩
end F
set_option maxHeartbeats 1000000 in
theorem meets_rvs (x : Str) (t : Tok) : Meets (Builtin.«reversed.__new__» ⟨[.type "reversed", .str x t], []⟩) (fun _ R s => ¬ (x.length : Int) ≥ 2 ^ 63 ∧
      ∀ tk, R (.ok (.ret (.ref s.heap.objs.size))) { s with heap := s.heap.push { cls := .type "reversed", data := .fields #[.str x t, rawInt ((x.length : Int) - 1)] }, toks := tk }) :=
  .of_wp fun prog w A R s h => by
    obtain ⟨hx, h⟩ := h
    unfold Builtin.«reversed.__new__»
    refine wpAny_bind (wpAny_of_eq (newClass_reversed _) ?_)
    try dsimp only
    refine wpAny_bind (wpAny_of_eq (a := ()) (by first | rfl | kernel_rfl) ?_)
    refine wpAny_bind (wpAny_of_eq (a := ()) (by first | rfl | kernel_rfl) ?_)
    try dsimp only
    refine wpAny_bind (wpAny_specialOf (typeIs_str s x t) F.lookup_str_reversed ?_)
    try dsimp only
    refine wpAny_bind ?_
    have hl := F.slot_str_getitem.lookup
    have hT := typeIs_str s x t
    have hD : isSubtype (.type "str") (.type "dict") = pure false := by rw [isSubtype_type]; kernel_rfl
    repeat (any_goals (first | assumption | refine PySem.P.len_str hx ?_ | wp_step))
    exact ⟨_, rfl, h _⟩

def Heap.IsRvs (h : Heap) (a : Addr) (x : Str) (t : Tok) (i : Int) : Prop := ∃ o, h.get? a = some o ∧ o.cls = .type "reversed" ∧ o.data = .fields #[.str x t, rawInt i]
theorem Heap.IsRvs.typeIs {s : Shared} {a : Addr} {x : Str} {t : Tok} {i : Int} (y : s.heap.IsRvs a x t i) : s.TypeIs (.ref a) "reversed" := let ⟨o, ho, hc, _⟩ := y; ⟨o, ho, hc⟩
namespace F
theorem slot_rvs_next : Slot "reversed" "__next__" "reversed.__next__" :=
  .of (owner := "reversed") (n := "__next__") (by rw [typeLookup_type, builtinLookup_eq_fast]; kernel_rfl) (by decide +kernel) (by decide +kernel) (by decide +kernel)
    (by first | exact .inl (by decide +kernel) | exact .inr (by decide +kernel)) (by rw [isSubtype_type]; kernel_rfl)
theorem entry_rvs_next : entryFor table "reversed.__next__" = some Builtin.«reversed.__next__» := entryFor_of_tree (by kernel_rfl)
theorem args_rvs_next (a : Value) : argsOk "reversed.__next__" ⟨[a], []⟩ := by unfold argsOk; kernel_rfl
theorem slot_rvs_iter : Slot "reversed" "__iter__" "reversed.__iter__" :=
  .of (owner := "reversed") (n := "__iter__") (by rw [typeLookup_type, builtinLookup_eq_fast]; kernel_rfl) (by decide +kernel) (by decide +kernel) (by decide +kernel)
    (by first | exact .inl (by decide +kernel) | exact .inr (by decide +kernel)) (by rw [isSubtype_type]; kernel_rfl)
theorem args_rvs_iter (a : Value) : argsOk "reversed.__iter__" ⟨[a], []⟩ := by unfold argsOk; kernel_rfl
theorem entry_rvs_iter : entryFor table "reversed.__iter__" = some Builtin.«dict_keyiterator.__iter__» :=
  entryFor_alias (id' := "dict_keyiterator.__iter__") (by kernel_rfl) rfl (by decide +kernel) (by kernel_rfl)
end F
section
variable {prog : Program} {w : World} {A : Around} {E : Value → Shared → Prop} {s : Shared} {x : Str} {t : Tok}
theorem call_rvs_str {Q : Value → Shared → Prop} (hx : ¬ (x.length : Int) ≥ 2 ^ 63)
    (h : ∀ tk, Q (.ref s.heap.objs.size) { s with heap := s.heap.push { cls := .type "reversed", data := .fields #[.str x t, rawInt ((x.length : Int) - 1)] }, toks := tk }) : wpAny (model prog w) A (call (.type "reversed") [.str x t]) Q E s :=
  callType_new F.called_rvs (by decide) (F.typeCall_reversed_1 _) (F.newCall_reversed_1 _) (fun obj => F.args_object_init_2 obj _) F.entry_reversed_new (meets_rvs x t) ⟨hx, fun tk => ⟨⟨_, Heap.get?_push_size _ rfl, rfl⟩, h tk⟩⟩
theorem iter_rvs {it : Addr} {i : Int} {Q : Value → Shared → Prop} (hit : s.heap.IsRvs it x t i) (h : Q (.ref it) s) : wpAny (model prog w) A (pyIter (.ref it)) Q E s := by
  refine wpAny_pyIter_slot hit.typeIs F.slot_rvs_iter (wpAny_call_entry F.slot_rvs_iter hit.typeIs F.entry_rvs_iter ?_ (F.args_rvs_iter _))
  show wpAny _ _ (ret (.ref it)) _ _ s
  exact wpAny_pure ⟨_, rfl, "reversed", _, hit.typeIs, F.slot_rvs_next.lookup, h⟩
theorem next_rvs_item {it : Addr} {i : Nat} {c : Nat} {Q : Option Value → Shared → Prop} (hit : s.heap.IsRvs it x t (i : Int)) (hx : x.cps[i]? = some c) (h63 : (i : Int) < 2 ^ 63)
    (hQ : ∀ h' tk u, h'.IsRvs it x t ((i : Int) - 1) → Heap.SameBut it s.heap h' → Q (some (.str ⟨#[c]⟩ u)) { s with heap := h', toks := tk }) : wpAny (model prog w) A (pyNext (.ref it)) Q E s := by
  obtain ⟨o, ho, hc, hd⟩ := id hit
  unfold pyNext
  refine wpAny_bind (wpAny_attempt (wpAny_callSpecial?_slot (name := Str.ofString "__next__") hit.typeIs F.slot_rvs_next
    (wpAny_call_entry F.slot_rvs_next hit.typeIs F.entry_rvs_next ?_ (F.args_rvs_next _))))
  unfold Builtin.«reversed.__next__»
  refine wpAny_bind (wpAny_of_eq (a := (Value.ref it, [])) rfl ?_)
  try dsimp only
  refine wpAny_bind (wpAny_field ho hd (x := .str x t) rfl ?_)
  refine wpAny_bind (wpAny_field ho hd (x := rawInt (i : Int)) rfl ?_)
  show wpAny _ _ (if (i : Int) < 0 then _ else _) _ _ s
  rw [if_neg (by omega)]
  refine wpAny_bind (wpAny_specialOf (typeIs_str s x t) F.slot_str_getitem.lookup ?_)
  show wpAny _ _ (if (some (Value.builtin "str.__getitem__")).isNone = true then _ else _) _ _ s
  rw [if_neg (by decide)]
  refine wpAny_bind (wpAny_mkInt ?_)
  have hlt : i < x.length := by
    have := Array.getElem?_eq_some_iff.mp hx
    exact this.1
  refine wpAny_bind (wpAny_attempt (PySem.P.getItem_str (c := c) ?_ ?_ ?_))
  · have e1 : decide ((i : Int) < -(2 ^ 63 : Int)) = false := decide_eq_false (by omega)
    have e2 : decide ((i : Int) ≥ 2 ^ 63) = false := decide_eq_false (by omega)
    rw [e1, e2, Bool.or_false]
  · rw [PySem.StrLaws.seqIndex_nonneg (by omega) (by omega)]
    simpa using hx
  try dsimp only
  refine wpAny_bind (wpAny_field ho hd (x := rawInt (i : Int)) rfl ?_)
  show wpAny _ _ (setField (.ref it) 1 (rawInt ((i : Int) - 1)) >>= _) _ _ _
  refine wpAny_bind (wpAny_setField ho hd (by simp) ?_)
  refine wpAny_pure ⟨_, rfl, wpAny_pure (hQ _ _ _ ?_ (Heap.SameBut.update ..))⟩
  exact ⟨_, Heap.get?_update_self _ ho (Obj.isFreed_of_fields (Obj.data_mapFields hd _)), (Obj.cls_mapFields ..).trans hc, by
    rw [Obj.data_mapFields hd]; simp⟩
theorem next_rvs_end {it : Addr} {Q : Option Value → Shared → Prop} (hh : A.handled = none) (hit : s.heap.IsRvs it x t (-1))
    (hQ : ∀ h', (∀ b o, b ≠ it → s.heap.get? b = some o → h'.get? b = some o) → Q none { s with heap := h' }) : wpAny (model prog w) A (pyNext (.ref it)) Q E s := by
  obtain ⟨o, ho, hc, hd⟩ := id hit
  unfold pyNext
  refine wpAny_bind (wpAny_attempt (wpAny_callSpecial?_slot (name := Str.ofString "__next__") hit.typeIs F.slot_rvs_next
    (wpAny_call_entry F.slot_rvs_next hit.typeIs F.entry_rvs_next ?_ (F.args_rvs_next _))))
  unfold Builtin.«reversed.__next__»
  refine wpAny_bind (wpAny_of_eq (a := (Value.ref it, [])) rfl ?_)
  try dsimp only
  refine wpAny_bind (wpAny_field ho hd (x := .str x t) rfl ?_)
  refine wpAny_bind (wpAny_field ho hd (x := rawInt (-1)) rfl ?_)
  show wpAny _ _ (if (-1 : Int) < 0 then _ else _) _ _ s
  rw [if_pos (by decide)]
  refine wpAny_bind (wpAny_rule ?_)
  refine wpAny_bind ?_
  show wpAny _ _ (setField (.ref it) 1 (rawInt (-1)) >>= fun _ => setField (.ref it) 0 .none) _ _ s
  refine wpAny_bind (wpAny_setField ho hd (by simp) ?_)
  have ho2 := Heap.get?_update_self (Obj.mapFields fun a => a.setIfInBounds 1 (rawInt (-1))) ho (Obj.isFreed_of_fields (Obj.data_mapFields hd _))
  have hd2 := Obj.data_mapFields hd fun a => a.setIfInBounds 1 (rawInt (-1))
  refine wpAny_setField ho2 hd2 (by simp) ?_
  generalize hh2 : (s.heap.update it _).update it _ = h2
  have kk : ∀ b o, b ≠ it → s.heap.get? b = some o → h2.get? b = some o := fun b o hb e => by
    rw [← hh2]
    exact (Heap.get?_update_other _ _ (Ne.symm hb)).trans ((Heap.get?_update_other _ _ (Ne.symm hb)).trans e)
  have hz : A.in1.handled = none := hh
  have sub := isSubtype_stop
  repeat (any_goals (first | assumption | wp_step))
  unfold raiseNew
  refine wpAny_bind (wpAny_handled ?_)
  rw [hz]
  refine wpAny_bind (wpAny_pure (wpAny_throw ?_))
  refine wpAny_bind (wpAny_isInstance (T := "StopIteration") (b := true) ?_ sub (wpAny_pure (hQ _ fun b o hb e => ?_)))
  · exact ⟨_, Heap.get?_push_size _ rfl, rfl⟩
  exact Heap.get?_push_of_some _ (Heap.get?_push_of_some _ (kk b o hb e))
theorem walks_rvs (hh : A.handled = none) (it : Addr) (x : Str) (t : Tok) (h63 : (x.cps.size : Int) < 2 ^ 63) :
    Walks prog w A it [it] [it] x.cps.size (fun i v => ∃ c u, x.cps[x.cps.size - 1 - i]? = some c ∧ v = .str ⟨#[c]⟩ u) (fun i h => i ≤ x.cps.size ∧ h.IsRvs it x t ((x.cps.size : Int) - 1 - (i : Int))) where
  sub := fun _ hb => hb
  frame := fun _ _ _ st hk => let ⟨l, o, ho, r⟩ := st; ⟨l, o, hk it (by simp) o ho, r⟩
  item := fun i s Q E hi y hQ => by
    have e : (x.cps.size : Int) - 1 - (i : Int) = ((x.cps.size - 1 - i : Nat) : Int) := by omega
    have hit := y.2
    rw [e] at hit
    have hx : x.cps[x.cps.size - 1 - i]? = some (x.cps[x.cps.size - 1 - i]'(by omega)) := Array.getElem?_eq_getElem (by omega)
    refine next_rvs_item hit hx (by omega) fun h' tk u hit' hs' => ?_
    have e2 : ((x.cps.size - 1 - i : Nat) : Int) - 1 = (x.cps.size : Int) - 1 - ((i + 1 : Nat) : Int) := by omega
    rw [e2] at hit'
    exact hQ _ h' tk ⟨_, u, hx, rfl⟩ ⟨hi, hit'⟩ fun b o hb eo => hs'.extBut b o (fun h => hb (by simp [h])) eo
  done := fun s Q E y hQ => by
    have e : (x.cps.size : Int) - 1 - (x.cps.size : Int) = -1 := by omega
    have hit := y.2
    rw [e] at hit
    exact next_rvs_end hh hit fun h' he' => hQ h' s.toks fun b o hb eo => he' b o (fun h => hb (by simp [h])) eo
  self := fun _ _ _ _ y hQ => iter_rvs y.2 hQ
end
end PySem

namespace L2
open PySem PySem.Spec PyProof.Rows
/-- the signs of a text, from the last on -/
def Itsr (z : Str) : It := ⟨fun i _ => i < z.cps.size, fun i H x H' => H' = H ∧ ∃ c, z.cps[z.cps.size - 1 - i]? = some c ∧ x = .str ⟨#[c]⟩, fun i _ => i = z.cps.size⟩
section
variable {X : Cx} {tg : Expr}
def iStrR (ta : TA) : TI := fun σ H R => ta σ H fun vs H1 => ∃ z, vs = [.str z] ∧ z.length ≤ sizeLine ∧ R (Itsr z) H1
theorem pi_strR {a : Expr} {ta : TA} {p pos : Pos} (hg : Gl X "reversed") (hm : X.mg "reversed" = none) (hb : bootBuiltins "reversed" = some (.type "reversed")) (ha : PA X [a] ta) (hs : starEach [a] X.env = [(false, eval a X.env)] := by rfl) :
    PI X tg (.Call (.Name "reversed" p) [a] [] pos) (iStrR ta) := by
  intro pins s σ H R I h
  refine Call_ (ld_blt I hg hm hb (PyProof.Rows.callWith_type1 (thn (ha pos pins s σ H _ I h) fun us s1 ⟨vs, H1, I1, r1, q1⟩ => ?_) hs rfl))
  obtain ⟨z, rfl, hz, q⟩ := q1
  obtain ⟨u, rfl, t, rfl⟩ := vals1 r1
  have hn := line63
  have hsz : z.cps.size = z.length := rfl
  refine call_rvs_str (by omega) fun tk => ?_
  have hit : Heap.IsRvs (s1.heap.push { cls := .type "reversed", data := .fields #[.str z t, rawInt ((z.length : Int) - 1)] }) s1.heap.objs.size z t ((z.length : Int) - 1) := ⟨_, Heap.get?_push_size _ rfl, rfl, rfl⟩
  refine iter_rvs (s := { s1 with heap := s1.heap.push { cls := .type "reversed", data := .fields #[.str z t, rawInt ((z.length : Int) - 1)] }, toks := tk }) hit ?_
  refine ⟨s1.heap.objs.size, [s1.heap.objs.size], _, Itsr z, H1, rfl, I1.kept (t' := tk) fun b o e => Heap.get?_push_of_some _ e,
    turn_of_walks (T := "reversed") (fl := fun i => #[.str z t, rawInt ((z.cps.size : Int) - 1 - (i : Int))]) (fun A hh => walks_rvs hh _ z t (by omega)) (fun i h st => st.2) (by decide) (fun i H g => g) (fun i H g => g)
      (fun i H u _ ⟨c, t', e, eu⟩ => ⟨.str ⟨#[c]⟩, ⟨t', eu⟩, rfl, c, e, rfl⟩) (fun A i s Q E st h => iter_rvs st.2 h), ⟨Nat.zero_le _, by simpa [hsz] using hit⟩, fun b hb => ?_, q⟩
  have e : b = s1.heap.objs.size := by simpa using hb
  subst e
  exact I1.fpOk (Nat.le_refl _) (I1.hok.fresh (Nat.le_refl _))

/-- a dict of texts that the top has written, read by a text -/
structure DTx (K : PySem.W.Frag) (w : World) (a : Addr) : Prop where
  ob : ∃ (es : Array DictEntry) (n : Nat), K.lookup a = some ⟨.type "dict", none, .dict es n, #[]⟩ ∧ PySem.W.KeysLit w.params es.toList
theorem ix_kdict {a : Addr} (D : DTx X.K X.w a) : IxR X (fun x y H Q => ∃ z z' t, x = .ref a ∧ y = .str z ∧ PySem.W.nsIn X.K a z = some (some (.str z' t)) ∧ Q (.str z') H) := by
  intro value slice pins s σ H x y v u Q I rx ry h hs
  obtain ⟨z, z', t', rfl, rfl, e, q⟩ := h
  cases rx
  obtain ⟨t, rfl⟩ := ry
  obtain ⟨es, n, hl, hk⟩ := D.ob
  obtain ⟨m, F⟩ := I.fr
  exact PySem.W.topItem_K F I.ok.mod.kin hl hk e ⟨.str z', H, I.tok _, ⟨_, rfl⟩, q⟩ hs
def tKGet (K : PySem.W.Frag) (a : Addr) (ti : TE) : TE := fun σ H Q => ti σ H fun y H1 => ∃ z z' t, y = .str z ∧ PySem.W.nsIn K a z = some (some (.str z' t)) ∧ Q (.str z') H1
theorem pe_kget {K : PySem.W.Frag} {w : World} {a : Addr} {x : Str} {i : Expr} {ti : TE} {p pos : Pos} (D : DTx K w a) (hK : X.K = K) (hw : X.w = w) (hg : Gl X x) (hm : X.mg x = some (.ref a)) (hi : PE X i ti) (hs : PlainIx i)
    (hd : (x == ("__debug__" : Str)) = false := by decide) : PE X (.Subscript (.Name x p) i pos) (tKGet K a ti) := by
  subst hK hw
  intro pins s σ H Q I h
  refine Subscript_ (ld_glob I hg hm (thn (hi pins s σ H _ I h) fun u s2 ⟨y, H2, I2, ry, z, z', t', e1, e2, q⟩ => ?_) hd)
  exact ix_kdict D _ _ pins s2 σ H2 (.ref a) y (.ref a) u Q I2 rfl ry ⟨z, z', t', rfl, e1, e2, q⟩ (hs _ _)
end
end L2
set_option linter.all false
/-! words of a free group on six letters, plainly -/
namespace Wd
abbrev L := Fin 12
def inv (x : L) : L := if h : x.val < 6 then ⟨x.val + 6, by omega⟩ else ⟨x.val - 6, by omega⟩
theorem inv_inv : ∀ x : L, inv (inv x) = x := by decide
theorem inv_ne : ∀ x : L, inv x ≠ x := by decide
def bk (w : List L) : List L := (w.map inv).reverse
theorem bk_append (u v : List L) : bk (u ++ v) = bk v ++ bk u := by simp [bk]
theorem bk_length (w : List L) : (bk w).length = w.length := by simp [bk]
theorem bk_one (x : L) : bk [x] = [inv x] := rfl

/-- a letter put on a stack (its head is the last letter) -/
def push (st : List L) (x : L) : List L := match st with
  | [] => [x]
  | y :: r => if y = inv x then r else x :: y :: r
def act (w : List L) (st : List L) : List L := w.foldl push st
theorem act_cons (x : L) (w st : List L) : act (x :: w) st = act w (push st x) := rfl
theorem act_append (u v st : List L) : act (u ++ v) st = act v (act u st) := by simp [act, List.foldl_append]
theorem act_snoc (u : List L) (x : L) (st : List L) : act (u ++ [x]) st = push (act u st) x := by rw [act_append]; rfl
/-- a stack without a letter beside its back -/
def Rd : List L → Prop
  | [] => True
  | [_] => True
  | x :: y :: r => y ≠ inv x ∧ Rd (y :: r)
theorem Rd.tail : ∀ {x : L} {r : List L}, Rd (x :: r) → Rd r
  | _, [], _ => trivial
  | _, _ :: _, h => h.2
theorem push_rd {st : List L} (x : L) (h : Rd st) : Rd (push st x) := by
  cases st with
  | nil => trivial
  | cons y r =>
    show Rd (if y = inv x then r else x :: y :: r)
    split
    · exact h.tail
    · rename_i hn
      exact ⟨hn, h⟩
theorem act_rd : ∀ (w : List L) {st : List L}, Rd st → Rd (act w st)
  | [], _, h => h
  | x :: w, st, h => act_rd w (push_rd x h)
/-- what a word is reduced to -/
def red (w : List L) : List L := (act w []).reverse
/-- a stack read as a word, put on the void stack, is itself -/
theorem act_rev : ∀ {st : List L}, Rd st → act st.reverse [] = st
  | [], _ => rfl
  | x :: r, h => by
    rw [List.reverse_cons, act_snoc, act_rev h.tail]
    cases r with
    | nil => rfl
    | cons y r =>
      show (if y = inv x then r else _) = _
      rw [if_neg h.1]
theorem nil_rd : Rd [] := trivial
/-- n times -/
def rep : Nat → List L → List L
  | 0, _ => []
  | n + 1, w => rep n w ++ w
theorem rep_comm (w : List L) : ∀ n, rep n w ++ w = w ++ rep n w
  | 0 => by simp [rep]
  | n + 1 => by
    show (rep n w ++ w) ++ w = w ++ (rep n w ++ w)
    rw [← List.append_assoc, ← rep_comm w n]
theorem rep_length (w : List L) : ∀ n, (rep n w).length = n * w.length
  | 0 => by simp [rep]
  | n + 1 => by
    show (rep n w ++ w).length = _
    rw [List.length_append, rep_length w n, Nat.succ_mul]
/-- the n-th power, any sign -/
def pw (w : List L) (n : Int) : List L := rep n.natAbs (if n < 0 then bk w else w)

/-! the scan from the first place on -/
/-- no letter beside its back, among the first k -/
def RdTo (k : Nat) (w : List L) : Prop := ∀ i x y, i + 1 < k → w[i]? = some x → w[i + 1]? = some y → y ≠ inv x
theorem rdTo_rd : ∀ {w : List L} {k : Nat}, w.length ≤ k → RdTo k w → act w [] = w.reverse := by
  have all : ∀ (u st : List L), Rd st → (∀ x y, st.head? = some x → u.head? = some y → y ≠ inv x) → RdTo u.length u → act u st = u.reverse ++ st := by
    intro u
    induction u with
    | nil => intro st _ _ _; rfl
    | cons x u ih =>
      intro st h hd hr
      have e : push st x = x :: st := by
        cases st with
        | nil => rfl
        | cons y r =>
          show (if y = inv x then r else _) = _
          rw [if_neg]
          intro e
          have := hd y x rfl rfl
          rw [e, inv_inv] at this
          exact this rfl
      rw [act_cons, e, ih (x :: st), List.reverse_cons, List.append_assoc]
      · rfl
      · rw [← e]; exact push_rd x h
      · intro a b ha hb
        have ea : a = x := (Option.some.inj ha).symm
        subst ea
        cases u with
        | nil => cases hb
        | cons c u =>
          have eb : b = c := (Option.some.inj hb).symm
          subst eb
          exact hr 0 a b (by simp) rfl rfl
      · intro i a b hi ha hb
        exact hr (i + 1) a b (by simp only [List.length_cons]; omega) ha hb
  intro w k hk h
  have := all w [] nil_rd (fun x y hx => by cases hx) (fun i x y hi => h i x y (by omega))
  simpa using this
theorem red_of_rdTo {w : List L} {k : Nat} (hk : w.length ≤ k) (h : RdTo k w) : red w = w := by
  unfold red
  rw [rdTo_rd hk h, List.reverse_reverse]
end Wd
set_option Elab.async false
set_option linter.all false
set_option maxRecDepth 100000
/-! texts of words -/
namespace L2
open PySem PySem.Spec PyProof.Rows Wd

def cp (x : L) : Nat := if x.val < 6 then 97 + x.val else 59 + x.val
theorem cp_lt : ∀ x : L, cp x < 128 := by decide
theorem cp_inj : ∀ x y : L, cp x = cp y → x = y := by decide
def toS (w : List L) : Str := ⟨(w.map cp).toArray⟩
def tx (w : List L) : V := .str (toS w)
theorem toS_cps (w : List L) : (toS w).cps.toList = w.map cp := by simp [toS]
theorem toS_length (w : List L) : (toS w).length = w.length := by simp [toS, Str.length]
theorem toS_size (w : List L) : (toS w).cps.size = w.length := by simp [toS]
theorem toS_append (u v : List L) : toS u ++ toS v = toS (u ++ v) := by
  apply Str.ext'
  rw [Str.cps_append]
  simp [toS]
theorem map_cp_inj : ∀ {u v : List L}, u.map cp = v.map cp → u = v
  | [], [], _ => rfl
  | [], _ :: _, h => by simp at h
  | _ :: _, [], h => by simp at h
  | x :: u, y :: v, h => by
    simp only [List.map_cons, List.cons.injEq] at h
    rw [cp_inj x y h.1, map_cp_inj h.2]
theorem toS_inj {u v : List L} (h : toS u = toS v) : u = v := by
  have : (toS u).cps.toList = (toS v).cps.toList := by rw [h]
  rw [toS_cps, toS_cps] at this
  exact map_cp_inj this
theorem tx_inj {u v : List L} (h : tx u = tx v) : u = v := toS_inj (V.str.inj h)
theorem toS_nil : toS [] = ("" : Str) := by decide +kernel
theorem tx_nil : tx [] = V.str ("" : Str) := congrArg V.str toS_nil
theorem small : toS [0, 1, 2, 3, 4, 5] = ("abcdef" : Str) := by decide +kernel
theorem big : toS [6, 7, 8, 9, 10, 11] = ("ABCDEF" : Str) := by decide +kernel

/-! one sign -/
theorem sign_at {w : List L} {i c : Nat} (h : (toS w).cps[i]? = some c) : ∃ x, w[i]? = some x ∧ (⟨#[c]⟩ : Str) = toS [x] := by
  have h : ((w.map cp).toArray)[i]? = some c := h
  rw [List.getElem?_toArray, List.getElem?_map] at h
  cases e : w[i]? with
  | none => rw [e] at h; cases h
  | some x =>
    rw [e] at h
    have : cp x = c := Option.some.inj h
    exact ⟨x, rfl, by rw [← this]; rfl⟩
theorem atI_toS {w : List L} {k : Nat} {x : L} {i : Int} (hk : i = (k : Int)) (h : w[k]? = some x) : atI (toS w).cps.toList i = some (cp x) := by
  subst hk
  rw [toS_cps]
  obtain ⟨hl, e⟩ := List.getElem?_eq_some_iff.mp h
  unfold atI ixN
  rw [if_pos (by omega), if_pos (by rw [List.length_map]; omega)]
  show (w.map cp)[((k : Nat) : Int).toNat]? = _
  rw [Int.toNat_natCast, List.getElem?_map, h]
  rfl

/-! slices -/
def cutL (w : List L) (lo hi : Option Int) : List L := (w.drop (HT.sIx w.length 0 lo)).take (HT.sIx w.length w.length hi - HT.sIx w.length 0 lo)
theorem idx_gen (lo hi : Option Int) (n : Nat) : Builtin.Str.strSliceIndices lo hi 1 n = (List.range (HT.sIx n n hi - HT.sIx n 0 lo)).map (fun k => HT.sIx n 0 lo + k) := by
  have cl : ∀ v : Int, max (0 : Int) (min (if v < 0 then v + (n : Int) else v) (n : Int)) = (((if v < 0 then (v + (n : Int)).toNat else min v.toNat n) : Nat) : Int) := fun v => by
    by_cases hv : v < 0
    · simp only [if_pos hv]; omega
    · simp only [if_neg hv]; omega
  have fin : ∀ a b : Nat, sliceRange (a : Int) (b : Int) 1 = (List.range (b - a)).map (fun k => a + k) := fun a b => by
    unfold sliceRange
    simp only [show ((1 : Int) > 0) = True from by simp, if_true]
    by_cases hlt : (a : Int) < b
    · have e3 : (((b : Int) - a + 1 - 1) / 1).toNat = b - a := by first | omega | (simp; done) | (simp; omega)
      simp only [hlt, if_true, e3]
      exact List.map_congr_left fun k _ => by omega
    · have : b - a = 0 := by omega
      simp [hlt, this]
  unfold Builtin.Str.strSliceIndices
  simp only [show ((1 : Int) > 0) = True from by simp, if_true]
  cases lo with
  | none =>
    cases hi with
    | none => exact fin 0 n
    | some j => simp only [cl]; exact fin 0 _
  | some i =>
    cases hi with
    | none => simp only [cl]; exact fin _ n
    | some j => simp only [cl]; exact fin _ _
theorem slice_toS (w : List L) (lo hi : Option Int) : Txt.slice (toS w) lo hi = toS (cutL w lo hi) := by
  have h1 := HT.sIx_le w.length 0 (Nat.zero_le _) lo
  have h2 := HT.sIx_le w.length w.length (Nat.le_refl _) hi
  unfold Txt.slice
  rw [idx_gen, toS_length]
  split
  · rename_i h
    have hl : HT.sIx w.length w.length hi - HT.sIx w.length 0 lo = w.length := by simpa using h
    have e : cutL w lo hi = w := by
      unfold cutL
      rw [hl]
      have ha : HT.sIx w.length 0 lo = 0 ∨ w.length = 0 := by omega
      rcases ha with ha | ha
      · rw [ha, List.drop_zero, List.take_length]
      · have : w = [] := List.eq_nil_of_length_eq_zero ha
        subst this
        simp
    rw [e]
  · apply Str.ext'
    show (List.filterMap _ _).toArray = _
    have e := StrLaws.picks (w.map cp) (HT.sIx w.length w.length hi - HT.sIx w.length 0 lo) (HT.sIx w.length 0 lo)
    by_cases hle : HT.sIx w.length 0 lo ≤ HT.sIx w.length w.length hi
    · have e := e (by rw [List.length_map]; omega)
      have e2 : (fun k : Nat => (toS w).cps[k]?) = fun k : Nat => (w.map cp)[k]? := funext fun k => by simp [toS]
      rw [e2, e]
      simp [toS, cutL, List.map_take, List.map_drop]
    · have z : HT.sIx w.length w.length hi - HT.sIx w.length 0 lo = 0 := by omega
      rw [z]
      simp [toS, cutL, z]
theorem cut_to (w : List L) {n : Int} (h : 0 ≤ n) : cutL w none (some n) = w.take n.toNat := by
  obtain ⟨k, rfl⟩ := Int.eq_ofNat_of_zero_le h
  unfold cutL
  rw [HT.sIx_none, HT.sIx_nat, List.drop_zero, Nat.sub_zero, Int.toNat_natCast]
  by_cases hk : k ≤ w.length
  · rw [Nat.min_eq_left hk]
  · rw [Nat.min_eq_right (by omega), List.take_length, List.take_of_length_le (by omega)]
theorem cut_from (w : List L) {n : Int} (h : 0 ≤ n) : cutL w (some n) none = w.drop n.toNat := by
  obtain ⟨k, rfl⟩ := Int.eq_ofNat_of_zero_le h
  unfold cutL
  rw [HT.sIx_none, HT.sIx_nat, Int.toNat_natCast]
  by_cases hk : k ≤ w.length
  · rw [Nat.min_eq_left hk, List.take_of_length_le (by rw [List.length_drop]; omega)]
  · rw [Nat.min_eq_right (by omega), List.drop_length, List.drop_eq_nil_of_le (by omega)]
    simp

/-! upper, lower, in 'abcdef', join, repr, times -/
theorem upper_toS (w : List L) : Txt.upper (toS w) = ⟨((w.map cp).map up1).toArray⟩ := by
  rw [upper_ascii fun c hc => by rw [toS_cps] at hc; obtain ⟨x, _, rfl⟩ := List.mem_map.mp hc; exact cp_lt x]
  simp [toS]
theorem lower_toS (w : List L) : Txt.lower (toS w) = ⟨((w.map cp).map lo1).toArray⟩ := by
  rw [lower_ascii fun c hc => by rw [toS_cps] at hc; obtain ⟨x, _, rfl⟩ := List.mem_map.mp hc; exact cp_lt x]
  simp [toS]
theorem up_cp : ∀ x : L, x.val < 6 → up1 (cp x) = cp (inv x) := by decide
theorem lo_cp : ∀ x : L, ¬ x.val < 6 → lo1 (cp x) = cp (inv x) := by decide
theorem upper_one {x : L} (h : x.val < 6) : Txt.upper (toS [x]) = toS [inv x] := by
  rw [upper_toS]
  show (⟨#[up1 (cp x)]⟩ : Str) = ⟨#[cp (inv x)]⟩
  rw [up_cp x h]
theorem lower_one {x : L} (h : ¬ x.val < 6) : Txt.lower (toS [x]) = toS [inv x] := by
  rw [lower_toS]
  show (⟨#[lo1 (cp x)]⟩ : Str) = ⟨#[cp (inv x)]⟩
  rw [lo_cp x h]
theorem ex1 : ∀ x : L, cp x ∈ List.map cp [0, 1, 2, 3, 4, 5] → x.val < 6 := by decide
theorem ex2 : ∀ x : L, x.val < 6 → (List.map cp [0, 1, 2, 3, 4, 5])[x.val]? = some (cp x) := by decide
theorem in_small (x : L) : (!(Builtin.Str.occurrences ("abcdef" : Str) (toS [x]) 0 ("abcdef" : Str).length 1).isEmpty) = decide (x.val < 6) := by
  have h := StrLaws.found_iff ("abcdef" : Str) (toS [x])
  have e : (∃ i, i + (toS [x]).length ≤ ("abcdef" : Str).length ∧ Builtin.Str.subAt ("abcdef" : Str) (toS [x]) i = true) ↔ x.val < 6 := by
    have e2 : ∀ i, (i + (toS [x]).length ≤ ("abcdef" : Str).length ∧ Builtin.Str.subAt ("abcdef" : Str) (toS [x]) i = true) ↔ ("abcdef" : Str).cps.toList[i]? = some (cp x) := fun i => StrLaws.subAt_one _ _ _
    rw [show (("abcdef" : Str)) = toS [0, 1, 2, 3, 4, 5] from small.symm] at e2 ⊢
    constructor
    · rintro ⟨i, hi⟩
      have hi := (e2 i).mp hi
      rw [toS_cps] at hi
      exact ex1 x (List.mem_of_getElem? hi)
    · intro hx
      refine ⟨x.val, (e2 x.val).mpr ?_⟩
      rw [toS_cps]
      exact ex2 x hx
  rw [Bool.eq_iff_iff, h, e, decide_eq_true_iff]
theorem join_one : ∀ w : List L, Txt.join ("" : Str) (w.map fun x => toS [x]) = toS w := by
  intro w
  have e0 : ("" : Str) = Str.empty := by decide +kernel
  unfold Txt.join
  rw [StrLaws.glued_eq_join, e0]
  induction w with
  | nil => rfl
  | cons x r ih =>
    cases r with
    | nil => rfl
    | cons y r =>
      show toS [x] ++ Str.empty ++ Str.join Str.empty ((y :: r).map fun x => toS [x]) = _
      rw [ih, Str.append_empty, toS_append]
      rfl
theorem sum_one (w : List L) : ((w.map fun x => toS [x]).map (·.length)).sum = w.length := by
  induction w with
  | nil => rfl
  | cons x r ih =>
    simp only [List.map_cons, List.sum_cons, List.length_cons]
    rw [ih, toS_length]
    simp only [List.length_singleton]
    omega
theorem foldl_rep_cp (w : List L) : ∀ (n : Nat) (acc : Array Nat), (List.replicate n (toS w).cps).foldl (· ++ ·) acc = acc ++ ((rep n w).map cp).toArray
  | 0, acc => by simp [rep]
  | n + 1, acc => by
    rw [List.replicate_succ, List.foldl_cons, foldl_rep_cp w n]
    show _ = acc ++ ((rep n w ++ w).map cp).toArray
    rw [rep_comm]
    simp [toS]
theorem rep_nil : ∀ n, rep n ([] : List L) = []
  | 0 => rfl
  | n + 1 => by show rep n [] ++ [] = []; rw [rep_nil n]; rfl
theorem rep_toS (w : List L) (n : Int) : Txt.mul (toS w) n = toS (rep n.toNat w) := by
  unfold Txt.mul
  by_cases h1 : n < 1
  · rw [if_pos h1]
    have : n.toNat = 0 := by omega
    rw [this]
    rfl
  · rw [if_neg h1]
    split
    · rename_i h
      rw [toS_length] at h
      simp only [Bool.or_eq_true, beq_iff_eq] at h
      rcases h with h | h
      · subst h
        show toS w = toS (rep 1 w)
        show toS w = toS ([] ++ w)
        rfl
      · have : w = [] := List.eq_nil_of_length_eq_zero h
        subst this
        rw [rep_nil]
    · apply Str.ext'
      show (List.replicate n.toNat (toS w).cps).foldl (· ++ ·) #[] = _
      rw [foldl_rep_cp]
      simp [toS]
theorem mulOk_toS (w : List L) {n : Int} (h1 : -1000000 ≤ n) (h2 : n ≤ 1000) (hw : w.length ≤ 10000) : MulOk (toS w) n := by
  refine ⟨?_, fun hn _ => ?_, fun hn _ => ?_⟩
  · have e1 : decide (n < -(2 ^ 63 : Int)) = false := decide_eq_false (by omega)
    have e2 : decide (n ≥ 2 ^ 63) = false := decide_eq_false (by omega)
    rw [e1, e2, Bool.or_false]
  · rw [toS_length]
    have hn1 : 1 ≤ n := by omega
    have q : (9223372036854775 : Int) ≤ (2 ^ 63 - 1) / n := by
      rw [Int.le_ediv_iff_mul_le (by omega)]
      omega
    omega
  · rw [toS_length]
    unfold Builtin.Str.tooLong
    have e : sizeLine = 16777216 := sizeLine_eq
    obtain ⟨k, rfl⟩ := Int.eq_ofNat_of_zero_le (show 0 ≤ n by omega)
    have hk : k ≤ 1000 := by omega
    rw [Int.toNat_natCast]
    have q : w.length * k ≤ 10000 * 1000 := Nat.mul_le_mul hw hk
    exact decide_eq_false (by omega)
end L2
set_option Elab.async false
set_option linter.all false
set_option maxRecDepth 100000
namespace L2
open PySem PySem.Spec PyProof.Rows Wd

/-! ### a def of the module by its promise -/
structure Fnc (P : Program) (w : World) (K : PySem.W.Frag) (mg : Str → Option Value) (base : Heap) (x : Str) (ps : List Str) (k : Nat) (sp : Sp) : Prop where
  ex : ∃ (f : Addr) (fd : FuncData), mg x = some (.ref f) ∧ PySem.W.keepIn K (.ref f) = true ∧ Binds K fd ps [] ∧ FnOk P w K mg base CX0 k f fd ps sp
theorem pe_fn {X : Cx} {x : Str} {ps : List Str} {k j : Nat} {sp : Sp} {e : Expr} {es : List Expr} {t : TA} {p pos : Pos} (F : Fnc X.prog X.w X.K X.mg X.base x ps j sp) (hr : Room k X.A) (hj : j ≤ k) (hg : Gl X x) (ha : PA X (e :: es) t)
    (hdb : (x == ("__debug__" : Str)) = false := by decide) (he : starEach (e :: es) X.env = (false, eval e X.env) :: starEach es X.env := by rfl) (hpl : (backTo pos (starEach es X.env)).any (·.1) = false := by rfl) :
    PE X (.Call (.Name x p) (e :: es) [] pos) (tCall sp [] E0 t) := by
  obtain ⟨f, fd, hm, hk, hb, F⟩ := F.ex
  exact pe_call F (hr.mono hj) hg hm hk hb .nil pass0 ha hdb he hpl
/-- a def that stands in the module -/
structure Df (K : PySem.W.Frag) (mg : Str → Option Value) (x : Str) (st : Stmt) : Prop where
  ex : ∃ (f : Addr) (fd : FuncData), mg x = some (.ref f) ∧ Fun K x x st f fd
theorem Df.ok {P : Program} {w : World} {K : PySem.W.Frag} {mg : Str → Option Value} {base : Heap} {x : Str} {st : Stmt} {N ps : List Str} {k : Nat} {sp : Sp} (D : Df K mg x st) (S : FnScope N ps (defScope st))
    (hb : ∀ (kV doc pm : Value) (an : Option Addr) (cdv ct : Value) (us : List Value), us.length = ps.length → bindArgs (PySem.W.fnOf x x (defArgs st) (defBody st) (defScope st) .none kV doc pm an cdv ct) ⟨us, []⟩ = pure (ps.zip us))
    (len : ∀ vs H Q E, sp vs H Q E → vs.length = ps.length)
    (hbody : ∀ (f : Addr) (cdv : Value) (A : Around) (outer : List Env) (s : Shared) (H : Hp) (vs : List V) (Q : VK) (E : XK), Room k (A.deeper (envOfC x (defScope st) s.heap.objs.size f cdv)) → sp vs H Q E →
      ∃ t, PSs (cxOf CX0 P w K mg base N x (defScope st) f cdv A outer s H E).nox (defBody st) t ∧ t { nx := fun _ H' => Q .non H', rt := Q } (start N vs) H) : Fnc P w K mg base x ps (k + 1) sp := by
  obtain ⟨f, fd, hm, F⟩ := D.ex
  exact ⟨f, fd, hm, F.kp, F.binds hb, F.ok S len fun cdv A outer s H vs Q E hr h => hbody f cdv A outer s H vs Q E hr h⟩

/-! ### what stays -/
/-- all that was tracked, but what stands at d, is as it was -/
def SameB (d : Addr) (H H' : Hp) : Prop := ∀ b o, b ≠ d → H b = some o → H' b = some o
theorem SameB.refl (d : Addr) (H : Hp) : SameB d H H := fun _ _ _ h => h
theorem SameB.trans {d : Addr} {H H1 H2 : Hp} (a : SameB d H H1) (b : SameB d H1 H2) : SameB d H H2 := fun c o n h => b c o n (a c o n h)
theorem Same.b {d : Addr} {H H' : Hp} (a : Same H H') : SameB d H H' := fun b o _ h => a b o h
theorem Same.new {H : Hp} {a : Addr} {o : HO} (h : H a = none) : Same H (upd H a o) := fun b u e => by rw [upd_ne (ne_of_none e h)]; exact e
theorem SameB.upd {d : Addr} {H : Hp} {o : HO} : SameB d H (upd H d o) := fun b u n e => by rw [upd_ne n]; exact e
theorem Same.then {H H1 : Hp} {a : Addr} {o : HO} (s : Same H H1) (h : H1 a = none) : Same H (L2.upd H1 a o) := s.trans (Same.new h)

/-! ### the feed of draws -/
def kS (x : Str) : Key := .inr x
def fkv (c : Addr) (i l t : Int) : List (Key × V) := [(kS "cells", .ref c), (kS "at", .int i), (kS "left", .int l), (kS "turn", .int t)]
theorem n_ca : ¬ (kS "cells" = kS "at") := by decide +kernel
theorem n_cl : ¬ (kS "cells" = kS "left") := by decide +kernel
theorem n_ct : ¬ (kS "cells" = kS "turn") := by decide +kernel
theorem n_al : ¬ (kS "at" = kS "left") := by decide +kernel
theorem n_at : ¬ (kS "at" = kS "turn") := by decide +kernel
theorem n_lt : ¬ (kS "left" = kS "turn") := by decide +kernel
theorem valV_hit {κ : Type} [DecidableEq κ] {k : κ} {v : V} {r : List (κ × V)} : valV ((k, v) :: r) k = some v := by unfold valV; simp
theorem valV_skip {κ : Type} [DecidableEq κ] {k k' : κ} {v : V} {r : List (κ × V)} (h : ¬ k' = k) : valV ((k', v) :: r) k = valV r k := by unfold valV; simp [h]
theorem g_cells (c : Addr) (i l t : Int) : valV (fkv c i l t) (kS "cells") = some (.ref c) := valV_hit
theorem g_at (c : Addr) (i l t : Int) : valV (fkv c i l t) (kS "at") = some (.int i) := (valV_skip n_ca).trans valV_hit
theorem g_left (c : Addr) (i l t : Int) : valV (fkv c i l t) (kS "left") = some (.int l) := (valV_skip n_cl).trans ((valV_skip n_al).trans valV_hit)
theorem g_turn (c : Addr) (i l t : Int) : valV (fkv c i l t) (kS "turn") = some (.int t) := (valV_skip n_ct).trans ((valV_skip n_at).trans ((valV_skip n_lt).trans valV_hit))
theorem n_ta : ¬ (kS "turn" = kS "at") := fun e => n_at e.symm
theorem n_la : ¬ (kS "left" = kS "at") := fun e => n_al e.symm
theorem n_tl : ¬ (kS "turn" = kS "left") := fun e => n_lt e.symm
theorem p_at (c : Addr) (i l t z : Int) : putK (fkv c i l t) (kS "at") (.int z) = fkv c z l t := by simp [putK, fkv, n_ca, n_la, n_ta]
theorem p_left (c : Addr) (i l t z : Int) : putK (fkv c i l t) (kS "left") (.int z) = fkv c i z t := by simp [putK, fkv, n_cl, n_al, n_tl]
theorem p_turn (c : Addr) (i l t z : Int) : putK (fkv c i l t) (kS "turn") (.int z) = fkv c i l z := by simp [putK, fkv, n_ct, n_at, n_lt]
theorem fkv_len (c : Addr) (i l t : Int) : (fkv c i l t).length < sizeLine := by show 4 < sizeLine; decide
theorem m_fkv (c : Addr) (i l t : Int) : mergeK [] (fkv c i l t) = fkv c i l t := by simp [mergeK, putK, fkv, n_ca, n_cl, n_ct, n_al, n_at, n_lt]

/-- a feed stands at d, its cells at c -/
structure Fd (H : Hp) (d : Addr) : Prop where
  ex : ∃ (c : Addr) (i l t : Int) (ns : List Int), H d = some (.dK (fkv c i l t)) ∧ H c = some (.lst (ns.map V.int)) ∧ ns ≠ [] ∧ ns.length ≤ 64
theorem Fd.same {H H' : Hp} {d : Addr} (F : Fd H d) (s : Same H H') : Fd H' d := by
  obtain ⟨c, i, l, t, ns, h1, h2, h3, h4⟩ := F.ex
  exact ⟨c, i, l, t, ns, s _ _ h1, s _ _ h2, h3, h4⟩
theorem Fd.new {H : Hp} {d a : Addr} {o : HO} (F : Fd H d) (h : H a = none) : Fd (upd H a o) d := F.same (Same.new h)
theorem Fd.ne {H : Hp} {d a : Addr} (F : Fd H d) (h : H a = none) : a ≠ d := by
  obtain ⟨c, i, l, t, ns, h1, h2, h3, h4⟩ := F.ex
  exact (ne_of_none h1 h).symm
theorem Fd.nl {H : Hp} {d a : Addr} {xs : List V} (F : Fd H d) (h : H a = some (.lst xs)) : a ≠ d := by
  obtain ⟨c, i, l, t, ns, h1, h2, h3, h4⟩ := F.ex
  exact ne_of h h1 (by intro z; cases z)
def spDraw : Sp := fun vs H Q _ => ∃ (d : Addr) (m : Int), vs = [.ref d, .int m] ∧ Fd H d ∧ 0 < m ∧ m < 1000000 ∧ ∀ (r : Int) (H' : Hp), 0 ≤ r → r < m → Fd H' d → SameB d H H' → Q (.int r) H'
def spFeed (K : PySem.W.Frag) : Sp := fun vs H Q _ => ∃ (a : Addr) (ns : List Int), vs = [.ref a] ∧ SqL K H a (ns.map V.int) ∧ ns.length ≤ 63 ∧ ∀ (d : Addr) (H' : Hp), H d = none → Fd H' d → Same H H' → Q (.ref d) H'
/-- the cell that a draw reads -/
theorem cell_at {ns : List Int} (h : ns ≠ []) (i : Int) : ∃ n : Int, atI (ns.map V.int) (i % ((ns.map V.int).length : Int)) = some (.int n) := by
  have hl : 0 < ns.length := List.length_pos_iff.mpr h
  rw [List.length_map]
  have h0 := Int.emod_nonneg i (show (ns.length : Int) ≠ 0 by omega)
  have h1 := Int.emod_lt_of_pos i (show (0 : Int) < ns.length by omega)
  obtain ⟨k, hk⟩ := Int.eq_ofNat_of_zero_le h0
  rw [hk] at h1 ⊢
  have hk' : k < ns.length := by omega
  refine ⟨ns[k], ?_⟩
  unfold atI ixN
  rw [if_pos (by omega), if_pos (by rw [List.length_map]; omega)]
  show (ns.map V.int)[((k : Nat) : Int).toNat]? = _
  rw [Int.toNat_natCast, List.getElem?_map, List.getElem?_eq_getElem hk']
  rfl
end L2
set_option Elab.async false
set_option linter.all false
set_option maxRecDepth 100000
/-! ### repr of plain data, min and sorted of texts -/
namespace L2
open PySem PySem.Spec PyProof.Rows Wd
mutual
/-- a value as plain data -/
inductive Dt (H : Hp) : V → PyData → Prop where
  | non : Dt H .non .none
  | bl (b : Bool) : Dt H (.bl b) (.bool b)
  | int (i : Int) : Dt H (.int i) (.int i)
  | str (x : Str) : Dt H (.str x) (.str x)
  | lst {a : Addr} {xs : List V} {ds : List PyData} : H a = some (.lst xs) → Dts H xs ds → Dt H (.ref a) (.list ds)
  | tup {a : Addr} {xs : List V} {ds : List PyData} : H a = some (.tup xs) → Dts H xs ds → Dt H (.ref a) (.tuple ds)
inductive Dts (H : Hp) : List V → List PyData → Prop where
  | nil : Dts H [] []
  | cons {v : V} {d : PyData} {vs : List V} {ds : List PyData} : Dt H v d → Dts H vs ds → Dts H (v :: vs) (d :: ds)
end
section
variable {P : Program} {w : World} {H : Hp} {h : Heap}
mutual
theorem Dt.reads (ok : HOk P w H h) : ∀ {v : V} {d : PyData}, Dt H v d → ∀ {u : Value}, RelV v u → ∃ as, Reads h u d as
  | _, _, .non, u, r => by cases r; exact ⟨_, .none⟩
  | _, _, .bl b, u, r => by cases r; exact ⟨_, .bool b⟩
  | _, _, .int i, u, r => by obtain ⟨t, rfl⟩ := r; exact ⟨_, .int i t⟩
  | _, _, .str x, u, r => by obtain ⟨t, rfl⟩ := r; exact ⟨_, .str x t⟩
  | _, _, .lst e q, u, r => by
    cases r
    obtain ⟨_, its, n, rv, g⟩ := ok _ _ e
    obtain ⟨as, ra⟩ := Dts.reads ok q rv
    exact ⟨_, .list g rfl rfl (by simpa using ra)⟩
  | _, _, .tup e q, u, r => by
    cases r
    obtain ⟨_, its, rv, ob, g, c, n, d⟩ := ok _ _ e
    obtain ⟨as, ra⟩ := Dts.reads ok q rv
    exact ⟨_, .tuple g c d (by simpa using ra)⟩
theorem Dts.reads (ok : HOk P w H h) : ∀ {vs : List V} {ds : List PyData}, Dts H vs ds → ∀ {us : List Value}, Vals vs us → ∃ as, ReadsAll h us ds as
  | _, _, .nil, _, r => by cases r; exact ⟨_, .nil⟩
  | _, _, .cons q qs, _, r => by
    cases r with
    | cons r rs =>
      obtain ⟨as, a1⟩ := Dt.reads ok q r
      obtain ⟨bs, a2⟩ := Dts.reads ok qs rs
      exact ⟨_, .cons a1 a2⟩
end
end
/-- data that may be shown -/
structure Sh (d : PyData) : Prop where
  sh : d.showable = true
  nd : d.hasDict = false
  dp : d.depth ≤ 10
  sz : d.shown.length ≤ sizeLine
section
variable {X : Cx}
theorem call_repr_dat (hg : X.A.guards = some []) (hu : X.A.units + 64 < cLine) : CallR X (.builtin "repr") (fun xs H Q => ∃ a d, xs = [.ref a] ∧ Dt H (.ref a) d ∧ Sh d ∧ Q (.str d.shown) H) := by
  intro pins s σ H xs us Q I r h
  obtain ⟨a, d, rfl, q, S, hQ⟩ := h
  obtain ⟨u, rfl, ru⟩ := vals1 r
  cases ru
  obtain ⟨as, rd⟩ := q.reads I.hok (u := .ref a) rfl
  refine repr_of_reads' rd S.sh (PyData.noDict_hsm S.nd) hg (by have := S.dp; omega) (fun _ _ e => e) (fun h' u tk hk => ?_) S.sz
  exact ⟨.str _, H, I.kept hk, ⟨_, rfl⟩, hQ⟩
end
/-! texts in order -/
section
variable {X : Cx}
end
end L2
set_option Elab.async false
set_option linter.all false
set_option maxRecDepth 100000
set_option maxHeartbeats 0
namespace Kx
open PySem PySem.Spec PyProof.Rows L2 Wd
theorem b_list : bootBuiltins "list" = some (.type "list") := by kernel_rfl
theorem b_int : bootBuiltins "int" = some (.type "int") := by kernel_rfl
theorem b_repr : bootBuiltins "repr" = some (.builtin "repr") := by kernel_rfl
theorem b_tuple : bootBuiltins "tuple" = some (.type "tuple") := by kernel_rfl
theorem b_isinstance : bootBuiltins "isinstance" = some (.builtin "isinstance") := by kernel_rfl
theorem b_all : bootBuiltins "all" = some (.builtin "all") := by kernel_rfl
theorem b_str : bootBuiltins "str" = some (.type "str") := by kernel_rfl
theorem b_zip : bootBuiltins "zip" = some (.type "zip") := by kernel_rfl
theorem b_reversed : bootBuiltins "reversed" = some (.type "reversed") := by kernel_rfl
/-- what the module holds beside its defs -/
structure Bt (K : PySem.W.Frag) (w : World) (mg : Str → Option Value) (aB : Addr) : Prop where
  len : mg "len" = none
  repr : mg "repr" = none
  abs : mg "abs" = none
  max : mg "max" = none
  int : mg "int" = none
  list : mg "list" = none
  range : mg "range" = none
  reversed : mg "reversed" = none
  min : mg "min" = none
  sorted : mg "sorted" = none
  tuple : mg "tuple" = none
  isinstance : mg "isinstance" = none
  all : mg "all" = none
  str : mg "str" = none
  zip : mg "zip" = none
  mgB : mg "BACKS" = some (.ref aB)
  dB : DTx K w aB
  gB : ∀ x : L, ∃ t, PySem.W.nsIn K aB (toS [x]) = some (some (.str (toS [inv x]) t))
theorem dg {H : Hp} {d : Addr} {kvs : List (Key × V)} {k : Str} {v : V} (h : H d = some (.dK kvs)) (e : valV kvs (kS k) = some v) : DGet H d (.str k) (some v) := by
  have q := DGet.k (k := kS k) h
  rw [e] at q
  exact q
theorem dp {H : Hp} {d : Addr} {kvs kvs' : List (Key × V)} {k : Str} {v : V} (h : H d = some (.dK kvs)) (hl : kvs.length < sizeLine) (e : putK kvs (kS k) v = kvs') : DPut H d (.str k) v (upd H d (.dK kvs')) := by
  have q := DPut.k (k := kS k) (v := v) h hl
  rw [e] at q
  exact q
theorem cut63 {ns : List Int} (h : ns.length ≤ 63) : cutV (ns.map V.int) none (some 63) = ns.map V.int := by
  unfold cutV
  have e : HT.sIx (ns.map V.int).length (ns.map V.int).length (some 63) = (ns.map V.int).length := by
    have := HT.sIx_nat (ns.map V.int).length (ns.map V.int).length 63
    rw [show ((63 : Nat) : Int) = 63 from rfl] at this
    rw [this, List.length_map]
    omega
  rw [e, HT.sIx_none, List.drop_zero, Nat.sub_zero, List.take_length]
/-- a word's signs as a list of texts -/
def ones (w : List L) : List V := w.map fun x => tx [x]
theorem ones_str (w : List L) : ones w = (w.map fun x => toS [x]).map V.str := by unfold ones; rw [List.map_map]; rfl
theorem ones_snoc (w : List L) (x : L) : ones w ++ [tx [x]] = ones (w ++ [x]) := by unfold ones; rw [List.map_append]; rfl
theorem ones_length (w : List L) : (ones w).length = w.length := by unfold ones; rw [List.length_map]
theorem join_ones (w : List L) : V.str (Txt.join ("" : Str) (w.map fun x => toS [x])) = tx w := congrArg V.str (join_one w)
theorem join_room (w : List L) (h : w.length ≤ 1000000) : ((w.map fun x => toS [x]).map (·.length)).sum + (w.map fun x => toS [x]).length * ("" : Str).length ≤ 16777216 := by
  have e : ("" : Str).length = 0 := by decide +kernel
  rw [e, sum_one]
  omega
theorem line16 : sizeLine = 16777216 := sizeLine_eq
def spBk : Sp := fun vs H Q _ => ∃ w, vs = [tx w] ∧ w.length ≤ 5000 ∧ ∀ H', Same H H' → Q (tx (bk w)) H'
theorem tx_app (u v : List L) : V.str (toS u ++ toS v) = tx (u ++ v) := congrArg V.str (toS_append u v)
/-- the signs of the first m letters, small and great -/
def sg (m : Int) : List L := ([0, 1, 2, 3, 4, 5] : List L).take m.toNat ++ ([6, 7, 8, 9, 10, 11] : List L).take m.toNat
theorem sg_length {m : Int} (h1 : 1 ≤ m) (h2 : m ≤ 6) : (sg m).length = 2 * m.toNat := by
  unfold sg
  rw [List.length_append, List.length_take, List.length_take]
  simp only [List.length_cons, List.length_nil]
  omega
theorem slice_sg {m : Int} (h1 : 1 ≤ m) : V.str (Txt.slice ("abcdef" : Str) none (some m) ++ Txt.slice ("ABCDEF" : Str) none (some m)) = tx (sg m) := by
  rw [← small, ← big, slice_toS, slice_toS, cut_to _ (by omega), cut_to _ (by omega), tx_app]
  rfl
theorem len_sm : ("abcdef" : Str).length = 6 := by decide +kernel
theorem len_bg : ("ABCDEF" : Str).length = 6 := by decide +kernel
theorem bk_get (u : List L) {i : Nat} {y : L} (hi : i < u.length) (h : u[u.length - 1 - i]? = some y) : (bk u)[i]? = some (inv y) := by
  unfold bk
  rw [List.getElem?_reverse (by rw [List.length_map]; exact hi), List.length_map, List.getElem?_map, h]
  rfl
theorem take_snoc {u : List L} {i : Nat} {x : L} (h : u[i]? = some x) : u.take (i + 1) = u.take i ++ [x] := by
  obtain ⟨hl, e⟩ := List.getElem?_eq_some_iff.mp h
  rw [List.take_add_one, h]
  rfl
theorem iteC {c : Bool} {A B : Prop} (hc : c = true) (h : A) : if c = true then A else B := by rw [if_pos hc]; exact h
theorem iteD {c : Bool} {A B : Prop} (hc : c = false) (h : B) : if c = true then A else B := by rw [hc]; exact iteF h
/-! data of words, that may be shown -/
def dws (ws : List (List L)) : List PyData := ws.map fun w => .str (toS w)
theorem dts_txs {H : Hp} : ∀ (ws : List (List L)), Dts H (ws.map tx) (dws ws)
  | [] => .nil
  | w :: r => .cons (.str (toS w)) (dts_txs r)
theorem dws_show : ∀ (ws : List (List L)), PyData.showableAll (dws ws) = true ∧ PyData.hasDictAll (dws ws) = false ∧ PyData.depthAll (dws ws) = 0 ∧ PyData.leavesShortAll 13 (dws ws) = true
  | [] => ⟨rfl, rfl, rfl, rfl⟩
  | w :: r => by
    obtain ⟨h1, h2, h3, h4⟩ := dws_show r
    refine ⟨?_, ?_, ?_, ?_⟩
    · show (PyData.showable (.str (toS w)) && PyData.showableAll (dws r)) = true
      rw [h1]; rfl
    · show (PyData.hasDict (.str (toS w)) || PyData.hasDictAll (dws r)) = false
      rw [h2]; rfl
    · show max (PyData.depth (.str (toS w))) (PyData.depthAll (dws r)) = 0
      rw [h3]; rfl
    · show (PyData.leavesShort 13 (.str (toS w)) && PyData.leavesShortAll 13 (dws r)) = true
      rw [h4, Bool.and_true]
      show ((toS w).cps.toList.all fun c => decide (c < 16 ^ 8)) = true
      rw [List.all_eq_true]
      intro c hc
      rw [toS_cps] at hc
      obtain ⟨x, _, rfl⟩ := List.mem_map.mp hc
      exact decide_eq_true (Nat.lt_of_lt_of_le (cp_lt x) (by decide))
end Kx
set_option linter.all false
namespace Wd
/-- turned by p -/
def rot (w : List L) (p : Nat) : List L := w.drop p ++ w.take p
end Wd
set_option linter.all false
/-! ### words that commute are powers of one word -/
namespace Wd
/-- the places where two words meet -/
def J (u v : List L) : Prop := ∀ x y, u.getLast? = some x → v.head? = some y → y ≠ inv x
theorem rd_append : ∀ (u v : List L), Rd (u ++ v) ↔ Rd u ∧ Rd v ∧ J u v
  | [], v => by
    constructor
    · intro h
      exact ⟨trivial, h, fun x y hx => by simp at hx⟩
    · intro h
      exact h.2.1
  | [x], [] => by
    constructor
    · intro h
      exact ⟨trivial, trivial, fun x y _ hy => by simp at hy⟩
    · intro _
      exact trivial
  | [x], y :: v => by
    constructor
    · intro h
      refine ⟨trivial, h.2, fun a b ha hb => ?_⟩
      have ha : x = a := by simpa using ha
      have hb : y = b := by simpa using hb
      subst ha hb
      exact h.1
    · intro h
      exact ⟨h.2.2 x y rfl rfl, h.2.1⟩
  | x :: y :: u, v => by
    have ih := rd_append (y :: u) v
    constructor
    · intro h
      have h2 := ih.mp h.2
      refine ⟨⟨h.1, h2.1⟩, h2.2.1, fun a b ha hb => h2.2.2 a b ?_ hb⟩
      rw [List.getLast?_cons_cons] at ha
      exact ha
    · intro h
      refine ⟨h.1.1, ih.mpr ⟨h.1.2, h.2.1, fun a b ha hb => h.2.2 a b ?_ hb⟩⟩
      rw [List.getLast?_cons_cons]
      exact ha
theorem inv_eq {x y : L} (h : y = inv x) : x = inv y := by rw [h, inv_inv]
theorem rd_rev : ∀ {w : List L}, Rd w → Rd w.reverse
  | [], _ => trivial
  | x :: w, h => by
    rw [List.reverse_cons, rd_append]
    refine ⟨rd_rev h.tail, trivial, fun a b ha hb => ?_⟩
    have hb : x = b := by simpa using hb
    subst hb
    cases w with
    | nil => simp at ha
    | cons y w =>
      have ha : y = a := by simpa using ha
      subst ha
      intro e
      exact h.1 (inv_eq e)
theorem red_of_rd {w : List L} (h : Rd w) : red w = w := by
  unfold red
  have := act_rev (rd_rev h)
  rw [List.reverse_reverse] at this
  rw [this, List.reverse_reverse]
/-! in the group -/
/-- a round word: not void, and itself twice is reduced -/
structure Rnd (c : List L) : Prop where
  ne : c ≠ []
  rd : Rd c
  jn : J c c
/-! texts that commute -/
/-! powers of a root, as they stand -/
theorem rep_head {r : List L} (h : r ≠ []) (n : Nat) : (rep (n + 1) r).head? = r.head? := by
  show (rep n r ++ r).head? = _
  rw [rep_comm]
  cases r with
  | nil => exact absurd rfl h
  | cons x r => rfl
theorem rep_last {r : List L} (h : r ≠ []) (n : Nat) : (rep (n + 1) r).getLast? = r.getLast? := by
  show (rep n r ++ r).getLast? = _
  rw [List.getLast?_append]
  cases hr : r.getLast? with
  | none => exact absurd (List.getLast?_eq_none_iff.mp hr) h
  | some x => rfl
theorem rep_ne {r : List L} (h : r ≠ []) (n : Nat) : rep (n + 1) r ≠ [] := by
  show rep n r ++ r ≠ []
  intro e
  exact h (List.append_eq_nil_iff.mp e).2
theorem rep_rd {r : List L} (R : Rnd r) : ∀ n, Rd (rep (n + 1) r)
  | 0 => by
    show Rd ([] ++ r)
    exact R.rd
  | n + 1 => by
    show Rd (rep (n + 1) r ++ r)
    rw [rd_append]
    refine ⟨rep_rd R n, R.rd, fun x y hx hy => ?_⟩
    rw [rep_last R.ne] at hx
    exact R.jn x y hx hy
theorem rep_rnd {r : List L} (R : Rnd r) (n : Nat) : Rnd (rep (n + 1) r) := by
  refine ⟨rep_ne R.ne n, rep_rd R n, fun x y hx hy => ?_⟩
  rw [rep_last R.ne] at hx
  rw [rep_head R.ne] at hy
  exact R.jn x y hx hy
end Wd
set_option Elab.async false
set_option linter.all false
set_option maxRecDepth 100000
/-! the least turn, by two places that go on -/
namespace L2
open PySem PySem.Spec PyProof.Rows Wd
end L2
set_option linter.all false
/-! ### words alike up to turning -/
namespace Wd
end Wd
namespace L2
open PySem PySem.Spec PyProof.Rows Wd
end L2
set_option Elab.async false
set_option linter.all false
set_option maxRecDepth 100000
/-! ### ranges that fall, find and count -/
namespace L2
open PySem PySem.Spec PyProof.Rows Wd
section
variable {X : Cx} {tg : Expr}
end

/-! methods within a block: the written part named -/
section
variable {X : Cx} {o e : Expr} {es : List Expr} {to : TE} {t : TA} {name : Str} {apos cpos : Pos} {T id : String} {r : V → List V → Hp → VK → Prop} {K : PySem.W.Frag}
end

/-! count of one sign -/
end L2
set_option Elab.async false
set_option linter.all false
set_option maxRecDepth 100000
/-! ### lists against [], all, isinstance, index, list(text), repr of a bool, in a dict of the top -/
namespace L2
open PySem PySem.Spec PyProof.Rows Wd
theorem bools_at : ∀ {bs : List Bool} {us : List Value} {i : Nat} {v : Value}, Vals (bs.map V.bl) us → us[i]? = some v → ∃ b, bs[i]? = some b ∧ v = .bool b
  | [], us, i, v, r, h => by
    rw [List.map_nil] at r
    cases r
    simp at h
  | b :: bs, us, i, v, r, h => by
    rw [List.map_cons] at r
    cases r with
    | cons r1 r2 =>
      cases i with
      | zero =>
        simp at h
        subst h
        exact ⟨b, rfl, r1⟩
      | succ i =>
        obtain ⟨b', e1, e2⟩ := bools_at (i := i) r2 (by simpa using h)
        exact ⟨b', by simpa using e1, e2⟩
theorem all_getD : ∀ bs : List Bool, ((List.range bs.length).all fun i => bs.getD i true) = bs.all id
  | [] => rfl
  | b :: bs => by
    rw [List.length_cons, List.range_succ_eq_map, List.all_cons, List.all_map, List.all_cons]
    have ih := all_getD bs
    show (b && (List.range bs.length).all fun i => (b :: bs).getD (i + 1) true) = _
    have e : (fun i => (b :: bs).getD (i + 1) true) = fun i => bs.getD i true := by funext i; simp
    rw [e, ih]
    rfl
section
variable {X : Cx}
def rAll (K : PySem.W.Frag) : List V → Hp → VK → Prop := fun xs H Q => ∃ (l : Addr) (bs : List Bool), xs = [.ref l] ∧ SqL K H l (bs.map V.bl) ∧ Q (.bl (bs.all id)) H
theorem call_all_bools (hc : X.calm = true) : CallR X (.builtin "all") (rAll X.K) := by
  intro pins s σ H xs us Q I r h
  obtain ⟨l, bs, rfl, hq, q⟩ := h
  obtain ⟨u, rfl, ru⟩ := vals1 r
  cases ru
  obtain ⟨its, rv, pl, _⟩ := I.list hq
  have hl := pl.isList
  have hlen : its.length = bs.length := by rw [← rv.length, List.length_map]
  have hlt : l < s.heap.objs.size := by obtain ⟨_, e, _⟩ := hl; exact Heap.lt_size e
  refine call_all_walk (wpAny_pyIter_list hl ?_)
  refine ⟨_, _, _, _, _, _, fun i => bs.getD i true, rfl, Walks.list (A := X.A.in1) (I.ok.hd hc) _ l (Nat.ne_of_lt hlt) its.toArray, ⟨⟨_, Heap.get?_push_size _ rfl, rfl, rfl⟩, hl.push _⟩, ?_, fun h' tk hk => ?_⟩
  · intro i v s' Q' E' hP hQ'
    have hP : its[i]? = some v := by simpa using hP
    obtain ⟨b, hb, e⟩ := bools_at rv hP
    subst e
    have : bs.getD i true = b := by rw [List.getD_eq_getElem?_getD, hb]; rfl
    have hQ' : Q' (bs.getD i true) s' := hQ'
    rw [this] at hQ'
    exact wpAny_truthy_bool hQ'
  · have old : ∀ b o, s.heap.get? b = some o → h'.get? b = some o := fun b o e => hk b o (fun z => by rw [List.mem_singleton.mp z] at e; exact absurd (Heap.lt_size e) (Nat.lt_irrefl _)) (Heap.get?_push_of_some _ e)
    refine ⟨.bl _, H, I.kept old, rfl, ?_⟩
    have e : ((List.range its.toArray.size).all fun i => bs.getD i true) = bs.all id := by
      rw [List.size_toArray, hlen]
      exact all_getD bs
    rw [e]
    exact q
theorem call_isinst : CallR X (.builtin "isinstance") (fun xs H Q => ∃ x t b n, xs = [x, .ty n] ∧ TyOf X.K H x t ∧ PySem.W.kitOne X.K t (.type n) = some b ∧ Q (.bl b) H) := by
  intro pins s σ H xs us Q I r h
  obtain ⟨x, t, b, n, rfl, ty, e, q⟩ := h
  obtain ⟨u, u2, rfl, rx, r2⟩ := vals2 r
  cases r2
  exact isinst_ok I rx ty e fun tk => ⟨.bl b, H, I.tok _, rfl, q⟩
def tKIn (K : PySem.W.Frag) (a : Addr) (to : TE) : TE := fun σ H Q => to σ H fun y H1 => ∃ (z : Str) (r : Option Value), y = .str z ∧ PySem.W.nsIn K a z = some r ∧ Q (.bl r.isSome) H1
theorem pe_kin {K : PySem.W.Frag} {w : World} {a : Addr} {x : Str} {o : Expr} {to : TE} {p pos : Pos} (D : DTx K w a) (hK : X.K = K) (hw : X.w = w) (hlo : (a == sysModules) = false) (hg : Gl X x) (hm : X.mg x = some (.ref a)) (ho : PE X o to)
    (hd : (x == ("__debug__" : Str)) = false := by decide) : PE X (.Compare o [.In] [.Name x p] pos) (tKIn K a to) := by
  subst hK hw
  intro pins s σ H Q I h
  refine wpAny_Compare1 (thn (ho pins s σ H _ I h) fun v s1 ⟨y, H1, I1, ry, z, r, e1, e2, q⟩ => ld_glob I1 hg hm ?_ hd) rfl
  subst e1
  obtain ⟨t, rfl⟩ := ry
  obtain ⟨es, n, hl, hk⟩ := D.ob
  obtain ⟨m, F⟩ := I1.fr
  exact PySem.W.topIn_K F I1.ok.mod.kin hl hk e2 hlo ⟨.bl _, H1, I1.tok _, rfl, q⟩
def rIndex : V → List V → Hp → VK → Prop := fun x vs H Q => ∃ z y i rest, x = .str z ∧ vs = [.str y] ∧ Builtin.Str.occurrences z y 0 z.length 1 = i :: rest ∧ Q (.int (i : Nat)) H
theorem mt_index : MtR X "str.index" rIndex := by
  intro pins s σ H x vs v us Q I rx rv h
  obtain ⟨z, y, i, rest, rfl, rfl, ho, q⟩ := h
  obtain ⟨t, rfl⟩ := rx
  obtain ⟨u1, rfl, ⟨t1, rfl⟩⟩ := vals1 rv
  exact SC.index ho ⟨.int _, H, I.tok _, ⟨_, rfl⟩, q⟩
/-- the signs of a text, a list of texts -/
def signs (z : Str) : List V := z.cps.toList.map fun c => .str ⟨#[c]⟩
theorem vals_signs {z : Str} {acc : Array Value} (h : ItemsOf (SignAt z) acc z.cps.size) : Vals (signs z) acc.toList := by
  have all : ∀ (cs : List Nat) (us : List Value), cs.length = us.length → (∀ (j : Nat) (v : Value), us[j]? = some v → ∃ c u, cs[j]? = some c ∧ v = .str ⟨#[c]⟩ u) → Vals (cs.map fun c => V.str ⟨#[c]⟩) us := by
    intro cs
    induction cs with
    | nil =>
      intro us hl _
      cases us with
      | nil => exact .nil
      | cons _ _ => simp at hl
    | cons c cs ih =>
      intro us hl hh
      cases us with
      | nil => simp at hl
      | cons u us =>
        obtain ⟨c', t, e1, e2⟩ := hh 0 u rfl
        have : c = c' := Option.some.inj e1
        subst this
        exact .cons ⟨t, e2⟩ (ih us (by simpa using hl) fun j v hj => hh (j + 1) v (by simpa using hj))
  refine all _ _ (by rw [Array.length_toList, Array.length_toList]; exact h.1.symm) fun j v hj => ?_
  obtain ⟨c, u, e1, e2⟩ := h.2 j v (by simpa using hj)
  exact ⟨c, u, by simpa using e1, e2⟩
theorem call_list_signs (hc : X.calm = true) : CallR X (.type "list") (fun xs H Q => ∃ z, xs = [.str z] ∧ z.length ≤ sizeLine ∧ ∀ p, H p = none → Q (.ref p) (upd H p (.lst (signs z)))) := by
  intro pins s σ H xs us Q I r h
  obtain ⟨z, rfl, hz, q⟩ := h
  obtain ⟨u, rfl, t, rfl⟩ := vals1 r
  refine call_list_str (I.ok.hd hc) z t (fun h' tk acc' c' kp e hI => ?_) hz
  have hl : (signs z).length ≤ sizeLine := by unfold signs; rw [List.length_map, Array.length_toList]; exact hz
  exact ⟨.ref s.heap.objs.size, _, I.laid kp (Nat.le_refl _) (show ObjOk X.prog X.w _ h' _ (.lst (signs z)) from ⟨hl, acc'.toList, c', vals_signs hI, by simpa using e⟩), rfl, q _ (I.hok.fresh (Nat.le_refl _))⟩
theorem call_repr_bool : CallR X (.builtin "repr") (fun xs H Q => ∃ b, xs = [.bl b] ∧ Q (.str (if b = true then Str.ofString "True" else Str.ofString "False")) H) := by
  intro pins s σ H xs us Q I r h
  obtain ⟨b, rfl, q⟩ := h
  obtain ⟨u, rfl, ru⟩ := vals1 r
  cases ru
  exact P.repr_of_bool ⟨.str _, H, I.tok _, ⟨_, rfl⟩, q⟩
end
end L2
set_option Elab.async false
set_option linter.all false
set_option maxRecDepth 100000
/-! ### zip of two texts of plain signs -/
namespace PySem
open Sem (wp)
/-- the five records of a zip stand apart -/
structure Ap5 (z TI TO i1 i2 : Addr) : Prop where
  TIz : TI ≠ z
  TOz : TO ≠ z
  i1z : i1 ≠ z
  i2z : i2 ≠ z
  TITO : TI ≠ TO
  TIi1 : TI ≠ i1
  TIi2 : TI ≠ i2
  TOi1 : TO ≠ i1
  TOi2 : TO ≠ i2
  i12 : i1 ≠ i2
abbrev AsIt (h : Heap) (i : Addr) (x : Str) (t : Tok) (k : Nat) : Prop := h.IsStrIter i "str_ascii_iterator" x t k
section
variable {prog : Program} {w : World} {A : Around} {E : Value → Shared → Prop} {s : Shared} {z TI TO i1 i2 : Addr} {x y : Str} {t u : Tok} {k c d : Nat} {a b : Value}
theorem zipS_item {Q : Value → Shared → Prop} (D : Ap5 z TI TO i1 i2)
    (hz : IsZip s.heap z TI TO .none) (hTI : IsPair s.heap TI (.ref i1) (.ref i2)) (hTO : IsPair s.heap TO a b) (h1 : AsIt s.heap i1 x t k) (h2 : AsIt s.heap i2 y u k) (hx : x.cps[k]? = some c) (hy : y.cps[k]? = some d)
    (hQ : ∀ h' tk t1 t2, IsZip h' z TI TO (rawInt s.heap.objs.size) → IsPair h' TO (.str ⟨#[c]⟩ t1) (.str ⟨#[d]⟩ t2) → AsIt h' i1 x t (k + 1) → AsIt h' i2 y u (k + 1) → IsPair h' s.heap.objs.size (.str ⟨#[c]⟩ t1) (.str ⟨#[d]⟩ t2) →
      (∀ e o, e ≠ z → e ≠ TO → e ≠ i1 → e ≠ i2 → s.heap.get? e = some o → h'.get? e = some o) → Q (.ref s.heap.objs.size) { s with heap := h', toks := tk }) :
    wpAny (model prog w) A (Builtin.«zip.__next__» ⟨[.ref z], []⟩) (fun fin s' => ∃ v, fin = .done (.ret v) ∧ Q v s') E s := by
  show wpAny _ _ (field (.ref z) 2 >>= _) _ _ _
  refine wpAny_bind (wpAny_field hz rfl (x := .bool false) rfl ?_)
  show wpAny _ _ (field (.ref z) 3 >>= _) _ _ _
  refine wpAny_bind (wpAny_field hz rfl (x := .ref TI) rfl (wpAny_bind (wpAny_seqItems hTI rfl ?_)))
  show wpAny _ _ (Builtin.SmallTypes.ownedTupleIsFree (.ref z) >>= _) _ _ _
  refine wpAny_bind ?_
  unfold Builtin.SmallTypes.ownedTupleIsFree
  refine wpAny_bind (wpAny_field hz rfl (x := .none) rfl (wpAny_pure ?_))
  simp only [if_true]
  refine wpAny_bind (wpAny_rule (wpAny_bind (wpAny_field hz rfl (x := .ref TO) rfl (wpAny_bind (wpAny_setField_rec hz (by simp) fun g1 hz1 e1 => ?_)))))
  have hz1 : IsZip g1 z TI TO .ellipsis := hz1
  refine wpAny_bind ?_
  simp only [List.zipIdx_cons, List.zipIdx_nil, List.forIn_cons, List.forIn_nil]
  refine wpAny_bind (wpAny_bind (wpAny_onRaise ?_))
  show wpAny _ _ (Builtin.SmallTypes.nextOf (.ref i1) >>= _) _ _ _
  refine wpAny_bind (wpAny_nextOf_ascii_item (h1.extBut e1.extBut D.i1z) hx fun g2 j1 e2 => wpAny_pure ?_)
  have o2 : IsPair g2 TO a b := e2.extBut _ _ D.TOi1 (e1.extBut _ _ D.TOz hTO)
  refine wpAny_bind (wpAny_seqItems o2 rfl (wpAny_bind (wpAny_updateSeq_pair o2 fun g3 o3 e3 => wpAny_bind (wpAny_letGo (wpAny_pure ?_)))))
  have o3 : IsPair g3 TO (.str ⟨#[c]⟩ s.toks) b := o3
  refine wpAny_bind (wpAny_bind (wpAny_onRaise ?_))
  show wpAny _ _ (Builtin.SmallTypes.nextOf (.ref i2) >>= _) _ _ _
  refine wpAny_bind (wpAny_nextOf_ascii_item (((h2.extBut e1.extBut D.i2z).extBut e2.extBut D.i12.symm).extBut e3.extBut D.TOi2.symm) hy fun g4 j2 e4 => wpAny_pure ?_)
  have o4 : IsPair g4 TO (.str ⟨#[c]⟩ s.toks) b := e4.extBut _ _ D.TOi2 o3
  refine wpAny_bind (wpAny_seqItems o4 rfl (wpAny_bind (wpAny_updateSeq_pair o4 fun g5 o5 e5 => wpAny_bind (wpAny_letGo (wpAny_pure (wpAny_pure ?_))))))
  have o5 : IsPair g5 TO (.str ⟨#[c]⟩ s.toks) (.str ⟨#[d]⟩ (s.toks + 1)) := o5
  refine wpAny_bind (wpAny_seqItems o5 rfl (wpAny_bind (wpAny_newTuple ?_)))
  have hsz : g5.objs.size = s.heap.objs.size := by rw [e5.1, e4.1, e3.1, e2.1, e1.1]
  have z5 : IsZip g5 z TI TO .ellipsis := e5.extBut _ _ D.TOz.symm (e4.extBut _ _ D.i2z.symm (e3.extBut _ _ D.TOz.symm (e2.extBut _ _ D.i1z.symm hz1)))
  have kk : ∀ e o, e ≠ z → e ≠ TO → e ≠ i1 → e ≠ i2 → s.heap.get? e = some o → g5.get? e = some o := fun e o n1 n2 n3 n4 q => e5.extBut _ _ n2 (e4.extBut _ _ n4 (e3.extBut _ _ n2 (e2.extBut _ _ n3 (e1.extBut _ _ n1 q))))
  have j1' : AsIt g5 i1 x t (k + 1) := ((j1.extBut e3.extBut D.TOi1.symm).extBut e4.extBut D.i12).extBut e5.extBut D.TOi1.symm
  have j2' : AsIt g5 i2 y u (k + 1) := j2.extBut e5.extBut D.TOi2.symm
  have zlt : z < g5.objs.size := Heap.lt_size z5
  show wpAny _ _ (Builtin.SmallTypes.ownedTupleHandOut (.ref z) (.ref g5.objs.size) >>= _) _ _ _
  refine wpAny_bind ?_
  unfold Builtin.SmallTypes.ownedTupleHandOut
  have z6 : IsZip (g5.push { cls := .type "tuple", data := .seq #[.str ⟨#[c]⟩ s.toks, .str ⟨#[d]⟩ (s.toks + 1)] }) z TI TO .ellipsis := Heap.get?_push_of_some _ z5
  refine wpAny_bind (wpAny_setField_rec z6 (by simp) fun g7 z7 e7 => ?_)
  have z7 : IsZip g7 z TI TO (rawInt g5.objs.size) := z7
  refine wpAny_setField_rec z7 (by simp) fun g8 z8 e8 => ?_
  have z8 : IsZip g8 z TI TO (rawInt g5.objs.size) := z8
  have up : ∀ e o, e ≠ z → g5.get? e = some o → g8.get? e = some o := fun e o n1 q => e8.extBut _ _ n1 (e7.extBut _ _ n1 (Heap.get?_push_of_some _ q))
  have T8 : IsPair g8 g5.objs.size (.str ⟨#[c]⟩ s.toks) (.str ⟨#[d]⟩ (s.toks + 1)) := e8.extBut _ _ (Nat.ne_of_gt zlt) (e7.extBut _ _ (Nat.ne_of_gt zlt) (Heap.get?_push_size _ rfl))
  rw [hsz] at z8 T8
  refine wpAny_pure ⟨_, rfl, ?_⟩
  show Q (.ref g5.objs.size) _
  rw [hsz]
  exact hQ g8 _ _ _ z8 (up _ _ D.TOz o5) (let ⟨o, ho, r⟩ := j1'; ⟨o, up _ o D.i1z ho, r⟩) (let ⟨o, ho, r⟩ := j2'; ⟨o, up _ o D.i2z ho, r⟩) T8 fun e o n1 n2 n3 n4 q => up e o n1 (kk e o n1 n2 n3 n4 q)
theorem zipS_end {Q : Fin → Shared → Prop} (hh : A.handled = none) (D : Ap5 z TI TO i1 i2)
    (hz : IsZip s.heap z TI TO .none) (hTI : IsPair s.heap TI (.ref i1) (.ref i2)) (hTO : IsPair s.heap TO a b) (h1 : AsIt s.heap i1 x t k) (h2 : AsIt s.heap i2 y u k) (hend : x.cps[k]? = none ∨ y.cps[k]? = none)
    (hE : ∀ h' tk e, (∀ c o, c ≠ z → c ≠ TO → c ≠ i1 → c ≠ i2 → s.heap.get? c = some o → h'.get? c = some o) → (∃ o, h'.get? e = some o ∧ o.cls = .type "StopIteration") → E (.ref e) { s with heap := h', toks := tk }) :
    wpAny (model prog w) A (Builtin.«zip.__next__» ⟨[.ref z], []⟩) Q E s := by
  show wpAny _ _ (field (.ref z) 2 >>= _) _ _ _
  refine wpAny_bind (wpAny_field hz rfl (x := .bool false) rfl ?_)
  show wpAny _ _ (field (.ref z) 3 >>= _) _ _ _
  refine wpAny_bind (wpAny_field hz rfl (x := .ref TI) rfl (wpAny_bind (wpAny_seqItems hTI rfl ?_)))
  show wpAny _ _ (Builtin.SmallTypes.ownedTupleIsFree (.ref z) >>= _) _ _ _
  refine wpAny_bind ?_
  unfold Builtin.SmallTypes.ownedTupleIsFree
  refine wpAny_bind (wpAny_field hz rfl (x := .none) rfl (wpAny_pure ?_))
  simp only [if_true]
  refine wpAny_bind (wpAny_rule (wpAny_bind (wpAny_field hz rfl (x := .ref TO) rfl (wpAny_bind (wpAny_setField_rec hz (by simp) fun g1 hz1 e1 => ?_)))))
  have hz1 : IsZip g1 z TI TO .ellipsis := hz1
  refine wpAny_bind ?_
  simp only [List.zipIdx_cons, List.zipIdx_nil, List.forIn_cons, List.forIn_nil]
  refine wpAny_bind (wpAny_bind (wpAny_onRaise ?_))
  show wpAny _ _ (Builtin.SmallTypes.nextOf (.ref i1) >>= _) _ _ _
  cases hx : x.cps[k]? with
  | none =>
    refine wpAny_bind (wpAny_nextOf_ascii_end hh (h1.extBut e1.extBut D.i1z) hx fun g2 e e2 he => ?_)
    obtain ⟨oe, hoe, hce⟩ := he
    have z2 : IsZip g2 z TI TO .ellipsis := e2 _ _ D.i1z.symm hz1
    have hez : e ≠ z := fun q => by subst q; rw [z2] at hoe; cases hoe; simp at hce
    exact wpAny_setField_rec z2 (by simp) fun g3 _ e3 => hE g3 _ e (fun c o n1 _ n3 _ q => e3.extBut _ _ n1 (e2 _ _ n3 (e1.extBut _ _ n1 q))) ⟨oe, e3.extBut _ _ hez hoe, hce⟩
  | some c =>
    have hy : y.cps[k]? = none := by
      rcases hend with h | h
      · rw [hx] at h; cases h
      · exact h
    refine wpAny_bind (wpAny_nextOf_ascii_item (h1.extBut e1.extBut D.i1z) hx fun g2 j1 e2 => wpAny_pure ?_)
    have o2 : IsPair g2 TO a b := e2.extBut _ _ D.TOi1 (e1.extBut _ _ D.TOz hTO)
    refine wpAny_bind (wpAny_seqItems o2 rfl (wpAny_bind (wpAny_updateSeq_pair o2 fun g3 o3 e3 => wpAny_bind (wpAny_letGo (wpAny_pure ?_)))))
    refine wpAny_bind (wpAny_bind (wpAny_onRaise ?_))
    show wpAny _ _ (Builtin.SmallTypes.nextOf (.ref i2) >>= _) _ _ _
    refine wpAny_bind (wpAny_nextOf_ascii_end hh (((h2.extBut e1.extBut D.i2z).extBut e2.extBut D.i12.symm).extBut e3.extBut D.TOi2.symm) hy fun g4 e e4 he => ?_)
    obtain ⟨oe, hoe, hce⟩ := he
    have z4 : IsZip g4 z TI TO .ellipsis := e4 _ _ D.i2z.symm (e3.extBut _ _ D.TOz.symm (e2.extBut _ _ D.i1z.symm hz1))
    have hez : e ≠ z := fun q => by subst q; rw [z4] at hoe; cases hoe; simp at hce
    exact wpAny_setField_rec z4 (by simp) fun g5 _ e5 => hE g5 _ e (fun c o n1 n2 n3 n4 q => e5.extBut _ _ n1 (e4 _ _ n4 (e3.extBut _ _ n2 (e2.extBut _ _ n3 (e1.extBut _ _ n1 q))))) ⟨oe, e5.extBut _ _ hez hoe, hce⟩
theorem nextS_item {Q : Option Value → Shared → Prop} (D : Ap5 z TI TO i1 i2)
    (hz : IsZip s.heap z TI TO .none) (hTI : IsPair s.heap TI (.ref i1) (.ref i2)) (hTO : IsPair s.heap TO a b) (h1 : AsIt s.heap i1 x t k) (h2 : AsIt s.heap i2 y u k) (hx : x.cps[k]? = some c) (hy : y.cps[k]? = some d)
    (hQ : ∀ h' tk t1 t2, IsZip h' z TI TO (rawInt s.heap.objs.size) → IsPair h' TO (.str ⟨#[c]⟩ t1) (.str ⟨#[d]⟩ t2) → AsIt h' i1 x t (k + 1) → AsIt h' i2 y u (k + 1) → IsPair h' s.heap.objs.size (.str ⟨#[c]⟩ t1) (.str ⟨#[d]⟩ t2) →
      (∀ e o, e ≠ z → e ≠ TO → e ≠ i1 → e ≠ i2 → s.heap.get? e = some o → h'.get? e = some o) → Q (some (.ref s.heap.objs.size)) { s with heap := h', toks := tk }) :
    wpAny (model prog w) A (pyNext (.ref z)) Q E s := by
  have hT : s.TypeIs (.ref z) "zip" := ⟨_, hz, rfl⟩
  unfold pyNext
  exact wpAny_bind (wpAny_attempt (wpAny_callSpecial?_slot (name := Str.ofString "__next__") hT F.slot_zip_next (wpAny_call_entry F.slot_zip_next hT F.entry_zip_next
    (zipS_item D hz hTI hTO h1 h2 hx hy fun h' tk t1 t2 b1 b2 b3 b4 b5 b6 => wpAny_pure (hQ h' tk t1 t2 b1 b2 b3 b4 b5 b6)) (F.args_zip_next_1 _))))
theorem nextS_end {Q : Option Value → Shared → Prop} (hh : A.handled = none) (D : Ap5 z TI TO i1 i2)
    (hz : IsZip s.heap z TI TO .none) (hTI : IsPair s.heap TI (.ref i1) (.ref i2)) (hTO : IsPair s.heap TO a b) (h1 : AsIt s.heap i1 x t k) (h2 : AsIt s.heap i2 y u k) (hend : x.cps[k]? = none ∨ y.cps[k]? = none)
    (hQ : ∀ h' tk, (∀ c o, c ≠ z → c ≠ TO → c ≠ i1 → c ≠ i2 → s.heap.get? c = some o → h'.get? c = some o) → Q none { s with heap := h', toks := tk }) : wpAny (model prog w) A (pyNext (.ref z)) Q E s := by
  have hT : s.TypeIs (.ref z) "zip" := ⟨_, hz, rfl⟩
  unfold pyNext
  refine wpAny_bind (wpAny_attempt (wpAny_callSpecial?_slot (name := Str.ofString "__next__") hT F.slot_zip_next (wpAny_call_entry F.slot_zip_next hT F.entry_zip_next
    (zipS_end hh D hz hTI hTO h1 h2 hend fun h' tk e hk he => ?_) (F.args_zip_next_1 _))))
  obtain ⟨o, ho, hc⟩ := he
  refine wpAny_bind (wpAny_isInstance (T := "StopIteration") (b := true) ⟨o, ho, hc⟩ isSubtype_stop ?_)
  exact wpAny_pure (hQ _ _ hk)
end
abbrev zs1 (h : Heap) (x : Str) (t : Tok) : Heap := h.push { cls := .type "str_ascii_iterator", data := .fields #[.str x t, .int 0 0] }
abbrev zs2 (h : Heap) (x y : Str) (t u : Tok) : Heap := (zs1 h x t).push { cls := .type "str_ascii_iterator", data := .fields #[.str y u, .int 0 0] }
abbrev zs3 (h : Heap) (x y : Str) (t u : Tok) : Heap := (zs2 h x y t u).push { cls := .type "tuple", data := .seq #[.ref h.objs.size, .ref (zs1 h x t).objs.size] }
abbrev zs4 (h : Heap) (x y : Str) (t u : Tok) : Heap := (zs3 h x y t u).push { cls := .type "tuple", data := .seq #[.none, .none] }
abbrev zs5 (h : Heap) (x y : Str) (t u : Tok) : Heap := (zs4 h x y t u).push { cls := .type "zip", data := .fields #[.none, .bool false, .bool false, .ref (zs2 h x y t u).objs.size, .ref (zs3 h x y t u).objs.size] }
set_option maxHeartbeats 2000000 in
theorem meets_zipS (x y : Str) (t u : Tok) (hx : x.cps.all (· < 128) = true) (hy : y.cps.all (· < 128) = true) :
    Meets (Builtin.«zip.__new__» ⟨[.type "zip", .str x t, .str y u], []⟩) (fun _ R s => R (.ok (.ret (.ref (zs4 s.heap x y t u).objs.size))) { s with heap := zs5 s.heap x y t u }) :=
  .of_wp fun prog w A R s h => by
    obtain ⟨hp, g, d, tk, os⟩ := s
    have hsub := sub_zip
    wp_walk using wpAny_pyIter_ascii hx, wpAny_pyIter_ascii hy
    exact ⟨_, rfl, h⟩
end PySem
set_option Elab.async false
set_option linter.all false
set_option maxRecDepth 100000
namespace PySem
theorem call_zipS {prog : Program} {w : World} {A : Around} {E : Value → Shared → Prop} {s : Shared} {x y : Str} {t u : Tok} {Q : Value → Shared → Prop} (hx : x.cps.all (· < 128) = true) (hy : y.cps.all (· < 128) = true)
    (h : ∀ h', IsZip h' (s.heap.objs.size + 4) (s.heap.objs.size + 2) (s.heap.objs.size + 3) .none → IsPair h' (s.heap.objs.size + 2) (.ref s.heap.objs.size) (.ref (s.heap.objs.size + 1)) → IsPair h' (s.heap.objs.size + 3) .none .none →
      AsIt h' s.heap.objs.size x t 0 → AsIt h' (s.heap.objs.size + 1) y u 0 → (∀ c o, s.heap.get? c = some o → h'.get? c = some o) → Q (.ref (s.heap.objs.size + 4)) { s with heap := h' }) :
    wpAny (model prog w) A (call (.type "zip") [.str x t, .str y u]) Q E s := by
  refine callType_new F.called_zip (by decide) (F.typeCall_zip_2 _ _) (F.newCall_zip_2 _ _) (fun obj => F.args_object_init_3 obj _ _) F.entry_zip_new (meets_zipS x y t u hx hy) ?_
  have n1 : (zs1 s.heap x t).objs.size = s.heap.objs.size + 1 := Heap.size_push ..
  have n2 : (zs2 s.heap x y t u).objs.size = s.heap.objs.size + 2 := by rw [Heap.size_push, n1]
  have n3 : (zs3 s.heap x y t u).objs.size = s.heap.objs.size + 3 := by rw [Heap.size_push, n2]
  have n4 : (zs4 s.heap x y t u).objs.size = s.heap.objs.size + 4 := by rw [Heap.size_push, n3]
  have g5 : (zs5 s.heap x y t u).get? (zs4 s.heap x y t u).objs.size = some _ := Heap.get?_push_size _ rfl
  have g4 : (zs5 s.heap x y t u).get? (zs3 s.heap x y t u).objs.size = some _ := Heap.get?_push_of_some _ (Heap.get?_push_size _ rfl)
  have g3 : (zs5 s.heap x y t u).get? (zs2 s.heap x y t u).objs.size = some _ := Heap.get?_push_of_some _ (Heap.get?_push_of_some _ (Heap.get?_push_size _ rfl))
  have g2 : (zs5 s.heap x y t u).get? (zs1 s.heap x t).objs.size = some _ := Heap.get?_push_of_some _ (Heap.get?_push_of_some _ (Heap.get?_push_of_some _ (Heap.get?_push_size _ rfl)))
  have g1 : (zs5 s.heap x y t u).get? s.heap.objs.size = some _ := Heap.get?_push_of_some _ (Heap.get?_push_of_some _ (Heap.get?_push_of_some _ (Heap.get?_push_of_some _ (Heap.get?_push_size _ rfl))))
  show _ ∧ _
  rw [n2, n3, n4] at g5
  rw [n1, n2] at g3
  rw [n3] at g4
  rw [n1] at g2
  rw [n4]
  exact ⟨⟨_, g5, rfl⟩, h _ g5 g3 g4 ⟨_, g1, rfl, rfl⟩ ⟨_, g2, rfl, rfl⟩ fun c o q => Heap.get?_push_of_some _ (Heap.get?_push_of_some _ (Heap.get?_push_of_some _ (Heap.get?_push_of_some _ (Heap.get?_push_of_some _ q))))⟩
end PySem
namespace L2
open PySem PySem.Spec PyProof.Rows
/-- pairs of signs of two texts, each pair a new tuple -/
def Itz (x y : Str) : It := ⟨fun i _ => i < min x.cps.size y.cps.size,
  fun i H v H' => ∃ (T : Addr) (c d : Nat), H T = none ∧ v = .ref T ∧ x.cps[i]? = some c ∧ y.cps[i]? = some d ∧ H' = upd H T (.tup [.str ⟨#[c]⟩, .str ⟨#[d]⟩]),
  fun i _ => i = min x.cps.size y.cps.size⟩
/-- records of ours changed, perhaps a tuple laid -/
theorem Inv.stepT {X : Cx} {pins : List (Addr × Obj)} {σ : St} {H : Hp} {s : Shared} {h' : Heap} {t' : Nat} {ch : List Addr} {T : Addr} {xs : List V} {its : List Value} (I : Inv X pins σ H s) (hf : ∀ b ∈ ch, FpOk X pins H b)
    (k : ∀ b o, b ∉ ch → s.heap.get? b = some o → h'.get? b = some o) (hT : s.heap.objs.size ≤ T) (hz : xs.length ≤ sizeLine) (rv : Vals xs its) (ht : IsTup h' T its.toArray) (there : ∀ b ∈ ch, ∃ o, s.heap.get? b = some o) : Inv X pins σ (upd H T (.tup xs)) { s with heap := h', toks := t' } := by
  have hn : H T = none := I.hok.fresh hT
  have ne : ∀ {b o}, s.heap.get? b = some o → b ≠ T := fun e => Nat.ne_of_lt (Nat.lt_of_lt_of_le (Heap.lt_size e) hT)
  have nch : ∀ {b u}, H b = some u → b ∉ ch := fun e z => by rw [(hf _ z).1] at e; cases e
  refine I.step (g' := s.gens) (d' := s.drawn) (ch := ch) (fun b hb => ?_) (fun b o _ _ hc e _ => k b o hc e) (fun b o _ _ hc e _ => ⟨o.slots, k b o hc e⟩) (fun b o _ e n => by rw [upd_ne (ne e)]; exact n) (fun b o hc e => ⟨o, k b o hc e⟩)
    (fun b ys e => by rw [upd_ne (ne_of_none e hn)]; exact e) (fun b o u e => by rw [upd_ne (ne_of_none e hn)]; exact e) (fun b ps e => ⟨#[], by rw [upd_ne (ne_of_none e hn), e]; simp⟩) (fun m hm => ?_) (fun b u e => ?_) I.bare
  · obtain ⟨_, f1, _, f3, f4, f5⟩ := hf b hb
    exact ⟨f3, f1, f4, f5⟩
  · obtain ⟨o, es, ep, ho, r⟩ := hm
    exact ⟨o, es, ep, k _ o (fun z => (hf _ z).2.1 rfl) ho, r⟩
  · by_cases hb : b = T
    · subst hb
      rw [upd_same] at e
      cases e
      exact ⟨hz, its, rv, ht⟩
    · rw [upd_ne hb] at e
      refine (I.hok b u e).stay (fun c v hc q => k c v ?_ q) (fun c q => by rw [upd_ne (ne_of_none q hn)]; exact q) fun c ys q => by rw [upd_ne (ne_of_none q hn)]; exact q
      rcases hc with z | z
      · rw [z]; exact nch e
      · exact nch z
theorem turn_zip {P : Program} {w : World} {K : PySem.W.Frag} {elts : List Expr} {k : Nat} {pos : Pos} {z TI TO i1 i2 : Addr} (x y : Str) (t u : Tok) (D : Ap5 z TI TO i1 i2) :
    Turn P w K (.Tuple elts k pos) (Itz x y) [z, TI, TO, i1, i2] z (fun i h => IsZip h z TI TO .none ∧ IsPair h TI (.ref i1) (.ref i2) ∧ (∃ a b, IsPair h TO a b) ∧ AsIt h i1 x t i ∧ AsIt h i2 y u i) where
  mem := by simp
  obj := fun i h st b hb => by
    obtain ⟨s1, s2, ⟨a, c, s3⟩, ⟨o1, s4, _, d4⟩, ⟨o2, s5, _, d5⟩⟩ := st
    simp only [List.mem_cons, List.not_mem_nil, or_false] at hb
    rcases hb with rfl | rfl | rfl | rfl | rfl
    · exact ⟨_, s1, fun v q => by cases q⟩
    · exact ⟨_, s2, fun v q => by cases q⟩
    · exact ⟨_, s3, fun v q => by cases q⟩
    · exact ⟨_, s4, fun v q => by rw [d4] at q; cases q⟩
    · exact ⟨_, s5, fun v q => by rw [d5] at q; cases q⟩
  keep := fun i h h' st kk => by
    obtain ⟨s1, s2, ⟨a, c, s3⟩, ⟨o1, s4, r4⟩, ⟨o2, s5, r5⟩⟩ := st
    exact ⟨kk z (by simp) _ s1, kk TI (by simp) _ s2, ⟨a, c, kk TO (by simp) _ s3⟩, ⟨o1, kk i1 (by simp) _ s4, r4⟩, ⟨o2, kk i2 (by simp) _ s5, r5⟩⟩
  item := by
    intro X hP hw hK hc i pins s σ H E I hf st hg
    subst hP hw hK
    have hg : i < min x.cps.size y.cps.size := hg
    obtain ⟨s1, s2, ⟨a, c, s3⟩, s4, s5⟩ := st
    have hx : x.cps[i]? = some (x.cps[i]'(by omega)) := Array.getElem?_eq_getElem (by omega)
    have hy : y.cps[i]? = some (y.cps[i]'(by omega)) := Array.getElem?_eq_getElem (by omega)
    generalize x.cps[i]'(by omega) = c1 at hx
    generalize y.cps[i]'(by omega) = c2 at hy
    refine nextS_item D s1 s2 s3 s4 s5 hx hy fun h' tk t1 t2 b1 b2 b3 b4 b5 b6 => ⟨_, rfl, ?_⟩
    refine wpAny_letOwnedTupleGo_zip b1 fun h2 c1' e2 => ?_
    have kk : ∀ b o, b ∉ [z, TI, TO, i1, i2] → s.heap.get? b = some o → h2.get? b = some o := fun b o hb e => by
      simp only [List.mem_cons, List.not_mem_nil, or_false, not_or] at hb
      exact e2.extBut _ _ hb.1 (b6 b o hb.1 hb.2.2.1 hb.2.2.2.1 hb.2.2.2.2 e)
    have hTz : s.heap.objs.size ≠ z := Nat.ne_of_gt (Heap.lt_size s1)
    have I2 : Inv X pins σ (upd H s.heap.objs.size (.tup [.str ⟨#[c1]⟩, .str ⟨#[c2]⟩])) { s with heap := h2, toks := tk } :=
      I.stepT (ch := [z, TI, TO, i1, i2]) (its := [.str ⟨#[c1]⟩ t1, .str ⟨#[c2]⟩ t2]) hf kk (Nat.le_refl _) (by show 2 ≤ sizeLine; decide) (.cons ⟨_, rfl⟩ (.cons ⟨_, rfl⟩ .nil)) ⟨_, e2.extBut _ _ hTz b5, rfl, _, rfl⟩ (fun b hb => by
        obtain ⟨o1, q4, _⟩ := s4
        obtain ⟨o2, q5, _⟩ := s5
        simp only [List.mem_cons, List.not_mem_nil, or_false] at hb
        rcases hb with rfl | rfl | rfl | rfl | rfl
        · exact ⟨_, s1⟩
        · exact ⟨_, s2⟩
        · exact ⟨_, s3⟩
        · exact ⟨_, q4⟩
        · exact ⟨_, q5⟩)
    have hnT : H s.heap.objs.size = none := I.hok.fresh (Nat.le_refl _)
    have sTI : IsPair h2 TI (.ref i1) (.ref i2) := e2.extBut _ _ D.TIz (b6 _ _ D.TIz D.TITO D.TIi1 D.TIi2 s2)
    refine ⟨.ref s.heap.objs.size, _, I2, rfl, ⟨s.heap.objs.size, c1, c2, hnT, rfl, hx, hy, rfl⟩, ⟨c1', sTI, ⟨_, _, e2.extBut _ _ D.TOz b2⟩, b3.extBut e2.extBut D.i1z, b4.extBut e2.extBut D.i2z⟩, fun b hb => ?_⟩
    have hlt : ∃ o, s.heap.get? b = some o := by
      obtain ⟨o1, q4, _⟩ := s4
      obtain ⟨o2, q5, _⟩ := s5
      simp only [List.mem_cons, List.not_mem_nil, or_false] at hb
      rcases hb with rfl | rfl | rfl | rfl | rfl
      · exact ⟨_, s1⟩
      · exact ⟨_, s2⟩
      · exact ⟨_, s3⟩
      · exact ⟨_, q4⟩
      · exact ⟨_, q5⟩
    obtain ⟨o, q⟩ := hlt
    rw [upd_ne (Nat.ne_of_lt (Heap.lt_size q))]
    exact (hf b hb).1
  done := by
    intro X hP hw hK hc i pins s σ H E I hf st hg
    subst hP hw hK
    have hg : i = min x.cps.size y.cps.size := hg
    obtain ⟨s1, s2, ⟨a, c, s3⟩, s4, s5⟩ := st
    refine nextS_end (I.ok.hd hc) D s1 s2 s3 s4 s5 ?_ fun h' tk kk => ⟨rfl, ?_⟩
    · by_cases hle : x.cps.size ≤ y.cps.size
      · exact .inl (Array.getElem?_eq_none (by omega))
      · exact .inr (Array.getElem?_eq_none (by omega))
    · have nch : ∀ {b u}, H b = some u → b ∉ [z, TI, TO, i1, i2] := fun e q => by rw [(hf _ q).1] at e; cases e
      have k2 : ∀ b o, b ∉ [z, TI, TO, i1, i2] → s.heap.get? b = some o → h'.get? b = some o := fun b o hb e => by
        simp only [List.mem_cons, List.not_mem_nil, or_false, not_or] at hb
        exact kk b o hb.1 hb.2.2.1 hb.2.2.2.1 hb.2.2.2.2 e
      refine I.step (g' := s.gens) (d' := s.drawn) (ch := [z, TI, TO, i1, i2]) (fun b hb => ?_) (fun b o _ _ hc e _ => k2 b o hc e) (fun b o _ _ hc e _ => ⟨o.slots, k2 b o hc e⟩) (fun _ _ _ _ n => n) (fun b o hc e => ⟨o, k2 b o hc e⟩)
        (fun _ _ e => e) (fun _ _ _ e => e) (fun b ps e => ⟨#[], by rw [e]; simp⟩) (fun m hm => ?_) (fun b u e => ?_) I.bare
      · obtain ⟨_, f1, _, f3, f4, f5⟩ := hf b hb
        exact ⟨f3, f1, f4, f5⟩
      · obtain ⟨o, es, ep, ho, r⟩ := hm
        exact ⟨o, es, ep, k2 _ o (fun q => (hf _ q).2.1 rfl) ho, r⟩
      · refine (I.hok b u e).stay (fun c v hc q => k2 c v ?_ q) (fun _ q => q) fun _ _ q => q
        rcases hc with q | q
        · rw [q]; exact nch e
        · exact nch q
  self := fun _ _ _ _ _ st h => wpAny_pyIter_zip st.1 h
section
variable {X : Cx}
theorem ap5_mk (n : Nat) : Ap5 (n + 4) (n + 2) (n + 3) n (n + 1) := by
  constructor <;> (intro h; have h : (_ : Nat) = _ := h; omega)
def iZip (ta : TA) : TI := fun σ H R => ta σ H fun vs H1 => ∃ x y, vs = [.str x, .str y] ∧ x.cps.all (· < 128) = true ∧ y.cps.all (· < 128) = true ∧ R (Itz x y) H1
theorem pi_zip {a b : Expr} {ta : TA} {p pos tp : Pos} {elts : List Expr} {k : Nat} (hg : Gl X "zip") (hm : X.mg "zip" = none) (hb : bootBuiltins "zip" = some (.type "zip")) (ha : PA X [a, b] ta) (hs : starEach [a, b] X.env = (false, eval a X.env) :: starEach [b] X.env := by rfl) (hs2 : (backTo pos (starEach [b] X.env)).any (·.1) = false := by rfl) :
    PI X (.Tuple elts k tp) (.Call (.Name "zip" p) [a, b] [] pos) (iZip ta) := by
  intro pins s σ H R I h
  refine Call_ (ld_blt I hg hm hb (PyProof.Rows.callWith_type1 (thn (ha pos pins s σ H _ I h) fun us s1 ⟨vs, H1, I1, r1, q1⟩ => ?_) hs hs2))
  obtain ⟨x, y, rfl, hx, hy, q⟩ := q1
  obtain ⟨u1, u2, rfl, ⟨t, rfl⟩, ⟨u, rfl⟩⟩ := vals2 r1
  refine call_zipS hx hy fun h' b1 b2 b3 b4 b5 b6 => ?_
  have I2 : Inv X pins σ H1 { s1 with heap := h', toks := s1.toks } := I1.kept b6
  refine wpAny_pyIter_zip (s := { s1 with heap := h', toks := s1.toks }) b1 ?_
  refine ⟨s1.heap.objs.size + 4, [s1.heap.objs.size + 4, s1.heap.objs.size + 2, s1.heap.objs.size + 3, s1.heap.objs.size, s1.heap.objs.size + 1], _, Itz x y, H1, rfl, I2,
    turn_zip x y t u (ap5_mk s1.heap.objs.size), ⟨b1, b2, ⟨_, _, b3⟩, b4, b5⟩, fun b hb => ?_, q⟩
  have hge : s1.heap.objs.size ≤ b := by
    simp only [List.mem_cons, List.not_mem_nil, or_false] at hb
    rcases hb with rfl | rfl | rfl | rfl | rfl <;> omega
  exact I1.fpOk hge (I1.hok.fresh hge)
theorem pg_tupK {K : PySem.W.Frag} {es : List Expr} {k : Nat} {t : TGs} {n : Nat} {pos : Pos} (hK : X.K = K) (hc : X.calm = true) (h : PGs X es t)
    (hn : (assignEach es X.env).length = n := by rfl) (hst : (assignEach es X.env).findIdx? (·.1) = none := by rfl) : PG X (.Tuple es k pos) (gTup K n t) := by
  subst hK
  exact pg_tup hc h hn hst
end
end L2
set_option Elab.async false
set_option linter.all false
set_option maxRecDepth 100000
set_option maxHeartbeats 0
namespace L2
open PySem PySem.Spec PyProof.Rows Wd
def notStar : Expr → Bool
  | .Starred _ _ => false
  | _ => true
theorem star_of {e : Expr} (h : notStar e = true) (es : List Expr) (env : Env) : starEach (e :: es) env = (false, eval e env) :: starEach es env := by
  cases e <;> first | rfl | cases h
theorem pa_c {X : Cx} {e : Expr} {es : List Expr} {te : TE} {t : TA} (ha : PE X e te) (hr : PA X es t) (h : notStar e = true := by rfl) : PA X (e :: es) (tCons te t) := pa_cons ha hr (star_of h _ _)
theorem call_isK {X : Cx} {K : PySem.W.Frag} (hK : X.K = K) : CallR X (.builtin "isinstance") (fun xs H Q => ∃ x t b n, xs = [x, .ty n] ∧ TyOf K H x t ∧ PySem.W.kitOne K t (.type n) = some b ∧ Q (.bl b) H) := by
  subst hK
  exact call_isinst
/-! ### letters and words among plain things -/
def ltr (c : Nat) : Option L := ([0, 1, 2, 3, 4, 5, 6, 7, 8, 9, 10, 11] : List L).find? fun x => cp x == c
theorem ltr_cp : ∀ x : L, ltr (cp x) = some x := by decide
theorem ltr_some {c : Nat} {x : L} (h : ltr c = some x) : cp x = c := by
  have := List.find?_some h
  simpa using this
def isLet (z : Str) : Bool := match z.cps.toList with
  | [c] => (ltr c).isSome
  | _ => false
def okC (m : Int) (c : Nat) : Bool := match ltr c with
  | some x => decide (((x.val % 6 : Nat) : Int) < m)
  | none => false
def isW (m : Int) (z : Str) : Bool := z.cps.toList.all (okC m)
def letV : V → Bool
  | .str z => isLet z
  | _ => false
def wdV (m : Int) : V → Bool
  | .str z => isW m z
  | _ => false
/-- a plain thing: a text, or something that is none -/
inductive Th (K : PySem.W.Frag) (H : Hp) : V → Prop
  | str (z : Str) (h : z.length ≤ 500) : Th K H (.str z)
  | oth {x : V} {n : String} (ty : TyOf K H x (.type n)) (e : PySem.W.kitOne K (.type n) (.type "str") = some false) (ns : ∀ z, x ≠ .str z) : Th K H x
theorem letV_oth {x : V} (ns : ∀ z, x ≠ .str z) : letV x = false := by
  cases x with
  | str z => exact absurd rfl (ns z)
  | _ => rfl
theorem wdV_oth {m : Int} {x : V} (ns : ∀ z, x ≠ .str z) : wdV m x = false := by
  cases x with
  | str z => exact absurd rfl (ns z)
  | _ => rfl
theorem TyOf.same {K : PySem.W.Frag} {H H' : Hp} {x : V} {t : Value} (s : Same H H') (h : TyOf K H x t) (hc : ∀ C, t ≠ .ref C) : TyOf K H' x t := by
  cases h with
  | non => exact .non
  | bl x => exact .bl x
  | int x => exact .int x
  | str x => exact .str x
  | flt x => exact .flt x
  | lst e => exact .lst (s _ _ e)
  | frz e => exact .frz (s _ _ e)
  | tup e => exact .tup (s _ _ e)
  | dK e => exact .dK (s _ _ e)
  | dT e => exact .dT (s _ _ e)
  | _ => exact absurd rfl (hc _)
theorem kit_str {K : PySem.W.Frag} : PySem.W.kitOne K (.type "str") (.type "str") = some true := by unfold PySem.W.kitOne; rw [if_pos (by rfl)]
theorem Th.same {K : PySem.W.Frag} {H H' : Hp} {x : V} (s : Same H H') (h : Th K H x) : Th K H' x := by
  cases h with
  | str z h => exact .str z h
  | oth ty e ns => exact .oth (ty.same s fun C => by intro z; cases z) e ns
/-- the keys of a dict of the top are the letters -/
structure Bk (K : PySem.W.Frag) (a : Addr) : Prop where
  lo : (a == sysModules) = false
  all : ∀ z : Str, ∃ r, PySem.W.nsIn K a z = some r ∧ r.isSome = isLet z
def keyT (e : DictEntry) : Str := match e.key with
  | .str x _ => x
  | _ => ""
def letters : List Str := ([0, 1, 2, 3, 4, 5, 6, 7, 8, 9, 10, 11] : List L).map fun x => toS [x]
theorem mem12 : ∀ x : L, x ∈ ([0, 1, 2, 3, 4, 5, 6, 7, 8, 9, 10, 11] : List L) := by decide
theorem isLet_of (z : Str) : isLet z = letters.any (fun y => y == z) := by
  have key : ∀ c : Nat, (ltr c).isSome = letters.any (fun y => y == (⟨#[c]⟩ : Str)) := by
    intro c
    rw [Bool.eq_iff_iff]
    constructor
    · intro h
      obtain ⟨x, hx⟩ := Option.isSome_iff_exists.mp h
      have e := ltr_some hx
      rw [List.any_eq_true]
      refine ⟨toS [x], List.mem_map.mpr ⟨x, mem12 x, rfl⟩, ?_⟩
      rw [← e]
      exact beq_iff_eq.mpr rfl
    · intro h
      obtain ⟨y, hy, e⟩ := List.any_eq_true.mp h
      obtain ⟨x, _, rfl⟩ := List.mem_map.mp hy
      have e := beq_iff_eq.mp e
      have e2 : [cp x] = [c] := congrArg (fun s : Str => s.cps.toList) e
      have e3 : cp x = c := by simpa using e2
      rw [← e3, ltr_cp]
      rfl
  obtain ⟨⟨l⟩⟩ := z
  match l with
  | [c] => exact key c
  | [] =>
    symm
    show _ = false
    rw [List.any_eq_false]
    intro y hy e
    obtain ⟨x, _, rfl⟩ := List.mem_map.mp hy
    have e := congrArg (fun s : Str => s.cps.toList.length) (beq_iff_eq.mp e)
    cases e
  | a :: b :: r =>
    symm
    show _ = false
    rw [List.any_eq_false]
    intro y hy e
    obtain ⟨x, _, rfl⟩ := List.mem_map.mp hy
    have e := congrArg (fun s : Str => s.cps.toList.length) (beq_iff_eq.mp e)
    cases e
theorem bk_mk {K : PySem.W.Frag} {w : World} {a : Addr} {es : Array DictEntry} {n : Nat} (lo : (a == sysModules) = false) (hl : K.lookup a = some ⟨.type "dict", none, .dict es n, #[]⟩) (hk : PySem.W.KeysLit w.params es.toList) (hn : es.toList.map keyT = letters) : Bk K a := by
  refine ⟨lo, fun z => ?_⟩
  have hs : ∀ e ∈ es.toList, e.key.isStr z = (keyT e == z) ∧ e.refKey = false := by
    intro e he
    obtain ⟨x, t, e1, _⟩ := hk.all e he
    unfold keyT DictEntry.refKey
    rw [e1]
    exact ⟨rfl, rfl⟩
  have ha : es.toList.any (fun e => e.key.isStr z) = isLet z := by
    rw [isLet_of, ← hn, List.any_map]
    rw [Bool.eq_iff_iff, List.any_eq_true, List.any_eq_true]
    constructor
    · rintro ⟨e, he, q⟩
      exact ⟨e, he, by rw [(hs e he).1] at q; exact q⟩
    · rintro ⟨e, he, q⟩
      exact ⟨e, he, by rw [(hs e he).1]; exact q⟩
  have hr : es.toList.any (fun e => e.refKey) = false := by
    rw [List.any_eq_false]
    intro e he
    rw [(hs e he).2]
    decide
  unfold PySem.W.nsIn
  rw [hl]
  dsimp only
  cases hf : es.toList.find? (fun e => e.key.isStr z) with
  | some e =>
    refine ⟨some e.val, rfl, ?_⟩
    rw [← ha]
    symm
    exact List.any_eq_true.mpr ⟨e, List.mem_of_find?_eq_some hf, by have := List.find?_some hf; exact this⟩
  | none =>
    refine ⟨none, ?_, ?_⟩
    · dsimp only
      rw [hr]
      rfl
    · rw [← ha]
      symm
      show _ = false
      rw [List.any_eq_false]
      intro e he q
      exact List.find?_eq_none.mp hf e he q
end L2
namespace Kx
open PySem PySem.Spec PyProof.Rows L2 Wd
def spLetter (K : PySem.W.Frag) : Sp := fun vs H Q _ => ∃ x, vs = [x] ∧ Th K H x ∧ Q (.bl (letV x)) H
def spNum : Sp := fun vs H Q _ => ∃ x : L, vs = [tx [x]] ∧ Q (.int ((x.val % 6 : Nat) : Int)) H
def spIsW (K : PySem.W.Frag) : Sp := fun vs H Q _ => ∃ (m : Int) (x : V), vs = [.int m, x] ∧ 1 ≤ m ∧ m ≤ 6 ∧ Th K H x ∧ ∀ H', Same H H' → Q (.bl (wdV m x)) H'
def spIsRed : Sp := fun vs H Q _ => ∃ u, vs = [tx u] ∧ u.length ≤ 500 ∧ ∀ H', Same H H' → Q (.bl (decide (red u = u))) H'
theorem asc (u : List L) : (toS u).cps.all (· < 128) = true := by
  rw [← Array.all_toList, toS_cps, List.all_eq_true]
  intro c hc
  obtain ⟨x, _, rfl⟩ := List.mem_map.mp hc
  exact decide_eq_true (cp_lt x)
theorem Rd_to : ∀ {st : List L}, Rd st → ∀ i x y, st[i]? = some x → st[i + 1]? = some y → y ≠ inv x
  | [], _, i, x, y, h, _ => by simp at h
  | [a], _, i, x, y, _, h => by simp at h
  | a :: b :: r, h, i, x, y, h1, h2 => by
    cases i with
    | zero =>
      simp at h1 h2
      subst h1 h2
      exact fun e => h.1 (by first | exact e | rw [e, inv_inv] | exact e.symm)
    | succ i => exact Rd_to h.tail i x y (by simpa using h1) (by simpa using h2)
/-- round: reduced, and so when closed to a ring -/
def rndB (u : List L) : Bool := decide (red u = u) && (decide (u = []) || !decide (u.getLast? = u.head?.map inv))
theorem rnd_nil : rndB [] = true := by decide
theorem rnd_ends {u : List L} (hne : u ≠ []) : ∃ x z, u[0]? = some x ∧ u[u.length - 1]? = some z ∧ atI (toS u).cps.toList (-1) = some (cp z) ∧ rndB u = (decide (red u = u) && !decide (z = inv x)) := by
  have e : u = u.dropLast ++ [u.getLast hne] := (List.dropLast_concat_getLast hne).symm
  refine ⟨u.head hne, u.getLast hne, ?_, ?_, ?_, ?_⟩
  · cases u with
    | nil => exact absurd rfl hne
    | cons a r => rfl
  · rw [List.getLast_eq_getElem, List.getElem?_eq_getElem]
  · generalize u.getLast hne = z at e
    rw [e, toS_cps, List.map_append]
    exact atI_last _ _
  · unfold rndB
    rw [List.getLast?_eq_some_getLast hne, List.head?_eq_some_head hne, decide_eq_false hne]
    simp
def chk (u : List L) : List Bool := List.zipWith (fun x y => !decide (tx [inv x] = tx [y])) u (u.drop 1)
theorem chk_at {u : List L} {i : Nat} {x y : L} (h1 : u[i]? = some x) (h2 : (u.drop 1)[i]? = some y) : (chk u)[i]? = some (!decide (tx [inv x] = tx [y])) := by
  unfold chk
  rw [List.getElem?_zipWith, h1, h2]
theorem chk_length (u : List L) : (chk u).length = u.length - 1 := by unfold chk; rw [List.length_zipWith, List.length_drop]; omega
theorem tx_one {x y : L} : tx [x] = tx [y] ↔ x = y := ⟨fun e => by have := tx_inj e; simpa using this, fun e => by rw [e]⟩
theorem chk_all (u : List L) : (chk u).all id = decide (red u = u) := by
  rw [Bool.eq_iff_iff, decide_eq_true_iff, List.all_eq_true]
  constructor
  · intro h
    refine red_of_rdTo (k := u.length) (Nat.le_refl _) fun i x y hi h1 h2 e => ?_
    have q := chk_at h1 (show (u.drop 1)[i]? = some y by rw [List.getElem?_drop, Nat.add_comm]; exact h2)
    have q2 := h _ (List.mem_of_getElem? q)
    rw [e] at q2
    simp at q2
  · intro h b hb
    obtain ⟨i, hi⟩ := List.mem_iff_getElem?.mp hb
    have hlt : i < u.length - 1 := by rw [← chk_length]; exact (List.getElem?_eq_some_iff.mp hi).1
    have h1 : u[i]? = some (u[i]'(by omega)) := List.getElem?_eq_getElem (by omega)
    have h2 : u[i + 1]? = some (u[i + 1]'(by omega)) := List.getElem?_eq_getElem (by omega)
    generalize u[i]'(by omega) = x at h1
    generalize u[i + 1]'(by omega) = y at h2
    have q := chk_at h1 (show (u.drop 1)[i]? = some y by rw [List.getElem?_drop, Nat.add_comm]; exact h2)
    rw [q] at hi
    have hi := Option.some.inj hi
    rw [← hi]
    have ha : act u [] = u.reverse := by
      have := congrArg List.reverse h
      unfold red at this
      rwa [List.reverse_reverse] at this
    have hr : Rd u.reverse := by rw [← ha]; exact act_rd u trivial
    have n := Rd_to hr (u.length - 1 - (i + 1)) y x (by rw [List.getElem?_reverse (by omega), show u.length - 1 - (u.length - 1 - (i + 1)) = i + 1 by omega]; exact h2)
      (by rw [List.getElem?_reverse (by omega), show u.length - 1 - (u.length - 1 - (i + 1) + 1) = i by omega]; exact h1)
    have : ¬ (tx [inv x] = tx [y]) := fun e => n (by rw [← tx_one.mp e, inv_inv])
    rw [decide_eq_false this]
    rfl
def spIsRound : Sp := fun vs H Q _ => ∃ u, vs = [tx u] ∧ u.length ≤ 500 ∧ ∀ H', Same H H' → Q (.bl (rndB u)) H'
theorem num_at : ∀ x : L, Builtin.Str.occurrences ("abcdef" : Str) (Txt.lower (toS [x])) 0 ("abcdef" : Str).length 1 = [x.val % 6] := by
  have q : ∀ x : L, Builtin.Str.occurrences ("abcdef" : Str) (⟨(([x].map cp).map lo1).toArray⟩ : Str) 0 ("abcdef" : Str).length 1 = [x.val % 6] := by decide +kernel
  intro x
  rw [lower_toS]
  exact q x
theorem one_ok (m : Int) (x : L) : okC m (cp x) = decide (((x.val % 6 : Nat) : Int) < m) := by unfold okC; rw [ltr_cp]
theorem isLet_ltr {c : Nat} (h : (ltr c).isSome = true) : ∃ x : L, (⟨#[c]⟩ : Str) = toS [x] ∧ c = cp x := by
  obtain ⟨x, hx⟩ := Option.isSome_iff_exists.mp h
  exact ⟨x, by rw [← ltr_some hx]; rfl, (ltr_some hx).symm⟩
theorem not_ok {m : Int} {c : Nat} (h : (ltr c).isSome = false) : okC m c = false := by
  unfold okC
  cases e : ltr c with
  | none => rfl
  | some x => rw [e] at h; cases h
theorem okC6 (c : Nat) : okC 6 c = (ltr c).isSome := by
  unfold okC
  cases ltr c with
  | none => rfl
  | some x => exact decide_eq_true (by have := Nat.mod_lt x.val (show 0 < 6 by decide); omega)
theorem wdV_true {K : PySem.W.Frag} {H : Hp} {m : Int} {x : V} (h : Th K H x) (e : wdV m x = true) : ∃ z, x = .str z ∧ z.length ≤ 500 := by
  cases h with
  | str z hz => exact ⟨z, rfl, hz⟩
  | oth ty q ns => rw [wdV_oth ns] at e; cases e
end Kx
set_option Elab.async false
set_option linter.all false
set_option maxRecDepth 100000
set_option maxHeartbeats 0
namespace L2
open PySem PySem.Spec PyProof.Rows Wd
section
variable {X : Cx}
end
theorem kit_tupT {K : PySem.W.Frag} : PySem.W.kitOne K (.type "tuple") (.type "tuple") = some true := by unfold PySem.W.kitOne; rw [if_pos (by rfl)]
theorem kitT_non {K : PySem.W.Frag} : PySem.W.kitOne K (.type "NoneType") (.type "tuple") = some false := by kernel_rfl
theorem kitT_bool {K : PySem.W.Frag} : PySem.W.kitOne K (.type "bool") (.type "tuple") = some false := by kernel_rfl
theorem kitT_int {K : PySem.W.Frag} : PySem.W.kitOne K (.type "int") (.type "tuple") = some false := by kernel_rfl
theorem kitT_list {K : PySem.W.Frag} : PySem.W.kitOne K (.type "list") (.type "tuple") = some false := by kernel_rfl
theorem kitT_str {K : PySem.W.Frag} : PySem.W.kitOne K (.type "str") (.type "tuple") = some false := by kernel_rfl
theorem kitT_dict {K : PySem.W.Frag} : PySem.W.kitOne K (.type "dict") (.type "tuple") = some false := by kernel_rfl
/-- a plain thing that stands at none of these places -/
structure Thx (K : PySem.W.Frag) (ex : List Addr) (H : Hp) (x : V) : Prop where
  th : Th K H x
  ne : ∀ a ∈ ex, x ≠ .ref a
theorem at_mem {xs : List V} {q : Int} (h0 : 0 ≤ q) (h1 : q < xs.length) : ∃ y, atI xs q = some y ∧ y ∈ xs := by
  obtain ⟨k, rfl⟩ := Int.eq_ofNat_of_zero_le h0
  have hk : k < xs.length := by omega
  refine ⟨xs[k], ?_, List.getElem_mem hk⟩
  unfold atI ixN
  rw [if_pos (by omega), if_pos (by omega)]
  show xs[((k : Nat) : Int).toNat]? = _
  rw [Int.toNat_natCast, List.getElem?_eq_getElem hk]
theorem cutV_mem {xs : List V} {lo hi : Option Int} {y : V} (h : y ∈ cutV xs lo hi) : y ∈ xs := List.mem_of_mem_drop (List.mem_of_mem_take h)
end L2
namespace Kx
open PySem PySem.Spec PyProof.Rows L2 Wd
/-- the word that a text is -/
def ofS (z : Str) : Option (List L) := z.cps.toList.mapM ltr
theorem mapM_ltr : ∀ {l : List Nat} {u : List L}, l.mapM ltr = some u → l = u.map cp
  | [], u, h => by simp at h; subst h; rfl
  | c :: r, u, h => by
    rw [List.mapM_cons] at h
    cases hc : ltr c with
    | none => rw [hc] at h; cases h
    | some x =>
      cases hr : r.mapM ltr with
      | none => rw [hc, hr] at h; cases h
      | some v =>
        rw [hc, hr] at h
        cases h
        rw [List.map_cons, ← ltr_some hc, ← mapM_ltr hr]
theorem mapM_cp : ∀ u : List L, (u.map cp).mapM ltr = some u
  | [] => rfl
  | x :: r => by rw [List.map_cons, List.mapM_cons, ltr_cp, mapM_cp r]; rfl
theorem ofS_some {z : Str} {u : List L} (h : ofS z = some u) : z = toS u := by
  have e := mapM_ltr h
  unfold toS
  rw [← e]
theorem ofS_toS (u : List L) : ofS (toS u) = some u := by unfold ofS; rw [toS_cps]; exact mapM_cp u
theorem all_mapM : ∀ l : List Nat, l.all (okC 6) = (l.mapM ltr).isSome
  | [] => rfl
  | c :: r => by
    rw [List.all_cons, List.mapM_cons, okC6, all_mapM r]
    cases ltr c <;> cases r.mapM ltr <;> rfl
theorem isW6 (z : Str) : isW 6 z = (ofS z).isSome := all_mapM _
/-- a ring: a round word, not void, not too long -/
def ringB (u : List L) : Bool := decide (1 ≤ u.length) && decide (u.length ≤ 120) && rndB u
def ringV : V → Bool
  | .str z => match ofS z with
    | some u => ringB u
    | none => false
  | _ => false
theorem ringV_tx (u : List L) : ringV (tx u) = ringB u := by show (match ofS (toS u) with | some u => ringB u | none => false) = _; rw [ofS_toS]
theorem ringV_no {x : V} (h : wdV 6 x = false) : ringV x = false := by
  cases x with
  | str z =>
    have h : isW 6 z = false := h
    rw [isW6] at h
    show (match ofS z with | some u => ringB u | none => false) = false
    cases e : ofS z with
    | none => rfl
    | some u => rw [e] at h; cases h
  | _ => rfl
theorem wd_tx {x : V} (h : wdV 6 x = true) : ∃ u, x = tx u := by
  cases x with
  | str z =>
    have h : isW 6 z = true := h
    rw [isW6] at h
    obtain ⟨u, e⟩ := Option.isSome_iff_exists.mp h
    exact ⟨u, by rw [ofS_some e]; rfl⟩
  | _ => cases h
def spRing (K : PySem.W.Frag) : Sp := fun vs H Q _ => ∃ x, vs = [x] ∧ Th K H x ∧ ∀ H', Same H H' → Q (.bl (ringV x)) H'
/-- a thing that may be rings, whether it is -/
inductive Tg (K : PySem.W.Frag) (ex : List Addr) (H : Hp) : V → Bool → Prop
  | tup {a : Addr} {xs : List V} (h : H a = some (.tup xs)) (hn : a ∉ ex) (hx : ∀ y ∈ xs, Thx K ex H y) (hl : xs.length ≤ 100) : Tg K ex H (.ref a) (decide (xs.length ≤ 6) && xs.all ringV)
  | oth {x : V} {n : String} (ty : TyOf K H x (.type n)) (e : PySem.W.kitOne K (.type n) (.type "tuple") = some false) (hn : ∀ a ∈ ex, x ≠ .ref a) : Tg K ex H x false
def spRings (K : PySem.W.Frag) : Sp := fun vs H Q _ => ∃ x ex b, vs = [x] ∧ Tg K ex H x b ∧ ∀ H', Same H H' → Q (.bl b) H'
theorem s12 : toS [0, 1, 2, 3, 4, 5, 6, 7, 8, 9, 10, 11] = ("abcdefABCDEF" : Str) := by decide +kernel
end Kx
namespace L2
open PySem PySem.Spec PyProof.Rows Wd
theorem comp_tup {K : PySem.W.Frag} {a : Addr} {xs : List V} {own : List Str} {cap : List Nat} {g : TG} {ti : TT} {te : TE} {σ : St} {H : Hp} {Q : VK} (Pv : Nat → List V → St → Hp → Prop) (h0 : Pv 0 [] (stB own cap σ) H) (hz : ∀ i ys σ H, i ≤ xs.length → Pv i ys σ H → ys.length ≤ i) (hn : xs.length ≤ sizeLine)
    (hl : ∀ i ys σ H, Pv i ys σ H → SqT K H a xs)
    (hs : ∀ i ys σ H x (N : List V → St → Hp → Prop), xs[i]? = some x → Pv i ys σ H → (∀ ys' σ' H'', Pv (i + 1) ys' σ' H'' → N ys' σ' H'') → g x σ H fun σ2 H2 => ti σ2 H2 fun b H3 => if b = true then te σ2 H3 fun y H4 => N (ys ++ [y]) σ2 H4 else N ys σ2 H3)
    (hd : ∀ ys σ H D, Pv xs.length ys σ H → H D = none → Q (.ref D) (upd H D (.lst ys))) :
    CompW own cap g ti te Q σ (Itt K a) H := by
  refine comp_by (J := Itt K a) xs.length Pv h0 hz hn (fun i ys σ H hi p => ⟨xs, xs[i], hl i ys σ H p, List.getElem?_eq_getElem hi⟩) (fun ys σ H p => ⟨xs, hl _ ys σ H p, Nat.le_refl _⟩) ?_ hd
  rintro i ys σ H x H' N hi p ⟨rfl, hx⟩ hN
  exact hs i ys σ _ x N (hx xs (hl i ys σ _ p)) p hN
theorem comp_list {K : PySem.W.Frag} {a : Addr} {xs : List V} {own : List Str} {cap : List Nat} {g : TG} {ti : TT} {te : TE} {σ : St} {H : Hp} {Q : VK} (Pv : Nat → List V → St → Hp → Prop) (h0 : Pv 0 [] (stB own cap σ) H) (hz : ∀ i ys σ H, i ≤ xs.length → Pv i ys σ H → ys.length ≤ i) (hn : xs.length ≤ sizeLine)
    (hl : ∀ i ys σ H, Pv i ys σ H → SqL K H a xs)
    (hs : ∀ i ys σ H x (N : List V → St → Hp → Prop), xs[i]? = some x → Pv i ys σ H → (∀ ys' σ' H'', Pv (i + 1) ys' σ' H'' → N ys' σ' H'') → g x σ H fun σ2 H2 => ti σ2 H2 fun b H3 => if b = true then te σ2 H3 fun y H4 => N (ys ++ [y]) σ2 H4 else N ys σ2 H3)
    (hd : ∀ ys σ H D, Pv xs.length ys σ H → H D = none → Q (.ref D) (upd H D (.lst ys))) :
    CompW own cap g ti te Q σ (Itl K a) H := by
  refine comp_by (J := Itl K a) xs.length Pv h0 hz hn (fun i ys σ H hi p => ⟨xs, xs[i], hl i ys σ H p, List.getElem?_eq_getElem hi⟩) (fun ys σ H p => ⟨xs, hl _ ys σ H p, Nat.le_refl _⟩) ?_ hd
  rintro i ys σ H x H' N hi p ⟨rfl, hx⟩ hN
  exact hs i ys σ _ x N (hx xs (hl i ys σ _ p)) p hN
theorem take_map {α β : Type} {xs : List α} {i : Nat} {x : α} (f : α → β) (h : xs[i]? = some x) : (xs.take (i + 1)).map f = (xs.take i).map f ++ [f x] := by
  rw [List.take_add_one, h, List.map_append]
  rfl
end L2
namespace L2
open PySem PySem.Spec PyProof.Rows Wd
end L2
namespace L2
open PySem PySem.Spec PyProof.Rows Wd
end L2
namespace L2
open PySem PySem.Spec PyProof.Rows Wd
theorem Fd.neT {H : Hp} {d a : Addr} {xs : List V} (F : Fd H d) (h : H a = some (.tup xs)) : a ≠ d := by
  obtain ⟨c, i, l, t, ns, h1, h2, h3, h4⟩ := F.ex
  exact ne_of h h1 (by intro z; cases z)
end L2
namespace L2
open PySem PySem.Spec PyProof.Rows Wd
theorem thf_nil {P : V → Prop} : ∀ x ∈ ([] : List V), P x := fun x h => nomatch h
theorem thf_cons {P : V → Prop} {a : V} {r : List V} (h : P a) (hr : ∀ x ∈ r, P x) : ∀ x ∈ a :: r, P x := by
  intro x hx
  rcases List.mem_cons.mp hx with rfl | hx
  · exact h
  · exact hr x hx
theorem none_of {H H1 : Hp} {a : Addr} (s : Same H H1) (h : H1 a = none) : H a = none := by
  cases e : H a with
  | none => rfl
  | some o => rw [s _ _ e] at h; cases h
end L2
set_option Elab.async false
set_option linter.all false
set_option maxRecDepth 100000
/-! ### a name that takes a comprehension's list -/
namespace L2
open PySem PySem.Spec PyProof.Rows

end L2
namespace L2
open PySem PySem.Spec PyProof.Rows Wd
end L2
set_option Elab.async false
set_option linter.all false
set_option maxRecDepth 100000
/-! ### enumerate of a list, of a tuple -/
namespace PySem
open Sem (wp)
open AutoSeq1 (wpAny_loadPart')
section
variable {prog : Program} {w : World} {A : Around} {E : Value → Shared → Prop} {s : Shared}
theorem nextT_item {it tp : Addr} {k : Nat} {its : Array Value} {v : Value} {Q : Value → Shared → Prop} (hit : s.heap.IsTupleIter it tp k) (ht : s.heap.IsTuple tp its) (hv : its[k]? = some v)
    (hQ : ∀ h', h'.IsTupleIter it tp (k + 1) → Heap.SameBut it s.heap h' → Q v { s with heap := h' }) : wpAny (model prog w) A (Builtin.SmallTypes.nextOf (.ref it)) Q E s := by
  obtain ⟨oi, gi, ci, di⟩ := id hit
  obtain ⟨ot, gt, _, nt, dt⟩ := ht
  unfold Builtin.SmallTypes.nextOf
  refine wpAny_bind (wpAny_callSpecial?_slot (name := Str.ofString "__next__") hit.typeIs F.slot_tuple_iterator_next (wpAny_call_entry F.slot_tuple_iterator_next hit.typeIs F.entry_tuple_iterator_next ?_ (F.args_tuple_iterator_next_1 _)))
  show wpAny _ _ (field (.ref it) 0 >>= _) _ _ s
  refine wpAny_bind (wpAny_field gi di (x := .ref tp) rfl ?_)
  show wpAny _ _ (if (Value.ref tp == Value.none) = true then _ else _) _ _ s
  rw [if_neg (show ¬ ((Value.ref tp == Value.none) = true) from Bool.false_ne_true)]
  show wpAny _ _ (field (.ref it) 1 >>= _) _ _ s
  refine wpAny_bind (wpAny_field gi di (x := .int k 0) rfl ?_)
  show wpAny _ _ (seqItems? (.ref tp) >>= _) _ _ s
  refine wpAny_bind (wpAny_seqItems gt dt ?_)
  simp only [Int.toNat_natCast, hv]
  refine wpAny_bind (wpAny_setField gi di (by simp) (wpAny_pure ⟨v, rfl, wpAny_pure (hQ _ ?_ (Heap.SameBut.update ..))⟩))
  exact ⟨_, Heap.get?_update_self _ gi (Obj.isFreed_of_fields (Obj.data_mapFields di _)), (Obj.cls_mapFields ..).trans ci, by rw [Obj.data_mapFields di]; simp [rawInt]⟩
theorem nextT_end {it tp : Addr} {k : Nat} {its : Array Value} {Q : Value → Shared → Prop} (hh : A.handled = none) (hit : s.heap.IsTupleIter it tp k) (ht : s.heap.IsTuple tp its) (hv : its[k]? = none)
    (hE : ∀ h' e, Heap.ExtBut it s.heap h' → (∃ o, h'.get? e = some o ∧ o.cls = .type "StopIteration") → E (.ref e) { s with heap := h' }) : wpAny (model prog w) A (Builtin.SmallTypes.nextOf (.ref it)) Q E s := by
  obtain ⟨oi, gi, ci, di⟩ := id hit
  obtain ⟨ot, gt, _, nt, dt⟩ := ht
  unfold Builtin.SmallTypes.nextOf
  refine wpAny_bind (wpAny_callSpecial?_slot (name := Str.ofString "__next__") hit.typeIs F.slot_tuple_iterator_next (wpAny_call_entry F.slot_tuple_iterator_next hit.typeIs F.entry_tuple_iterator_next ?_ (F.args_tuple_iterator_next_1 _)))
  show wpAny _ _ (field (.ref it) 0 >>= _) _ _ s
  refine wpAny_bind (wpAny_field gi di (x := .ref tp) rfl ?_)
  show wpAny _ _ (if (Value.ref tp == Value.none) = true then _ else _) _ _ s
  rw [if_neg (show ¬ ((Value.ref tp == Value.none) = true) from Bool.false_ne_true)]
  show wpAny _ _ (field (.ref it) 1 >>= _) _ _ s
  refine wpAny_bind (wpAny_field gi di (x := .int k 0) rfl ?_)
  show wpAny _ _ (seqItems? (.ref tp) >>= _) _ _ s
  refine wpAny_bind (wpAny_seqItems gt dt ?_)
  simp only [Int.toNat_natCast, hv]
  refine wpAny_bind (wpAny_rule (wpAny_bind (wpAny_setField gi di (by simp) ?_)))
  show wpAny _ _ (newExc (.type "StopIteration") [] >>= _) _ _ _
  refine wpAny_bind ?_
  simp only [newExc, newTuple]
  refine wpAny_bind (wpAny_newObj_type ?_ (by size_fits))
  refine wpAny_bind (m := firstArgMember _ _) (wpAny_of_eq (a := Value.none) (by first | rfl | (simp only [firstArgMember]; rfl)) (wpAny_newObj_type ?_ (by size_fits)))
  simp only [raiseNew]
  refine wpAny_bind (wpAny_handled ?_)
  first | rw [show A.in1.handled = none from hh] | rw [hh]
  exact wpAny_bind (wpAny_pure (wpAny_throw (hE _ _ (((Heap.SameBut.update ..).extBut.push _).push _) ⟨_, Heap.get?_push_size _ rfl, rfl⟩)))
theorem drawsT {prog : Program} {w : World} {A : Around} (hh : A.handled = none) (it tp : Addr) (hne : tp ≠ it) (its : Array Value) :
    Draws prog w A it [it, tp] its.size (fun i x => its[i]? = some x) (fun i h => h.IsTupleIter it tp i ∧ h.IsTuple tp its) where
  live := fun i h st => let ⟨⟨o, e, _⟩, _⟩ := st; ⟨o, e⟩
  frame := fun i h h' st kk => ⟨st.1.at fun o e => kk it (by simp) o e, let ⟨o, e, r⟩ := st.2; ⟨o, kk tp (by simp) o e, r⟩⟩
  item := fun i s Q E hi st hQ => nextT_item st.1 st.2 (Array.getElem?_eq_getElem hi) fun h' st' sb => hQ _ h' s.toks (Array.getElem?_eq_getElem hi) ⟨st', let ⟨o, e, r⟩ := st.2; ⟨o, (sb.2 tp hne).trans e, r⟩⟩ sb
  done := fun s Q E st hE => nextT_end hh st.1 st.2 (Array.getElem?_eq_none (Nat.le_refl _)) hE
end
end PySem
namespace L2
open PySem PySem.Spec PyProof.Rows Wd
section
variable {X : Cx}
theorem fp2 {pins : List (Addr × Obj)} {σ : St} {H : Hp} {s : Shared} (I : Inv X pins σ H s) : ∀ b ∈ [s.heap.objs.size + 1, s.heap.objs.size], FpOk X pins H b := fun b hb => by
  have hge : s.heap.objs.size ≤ b := by
    simp only [List.mem_cons, List.not_mem_nil, or_false] at hb
    rcases hb with rfl | rfl <;> omega
  exact I.fpOk hge (I.hok.fresh hge)
end
end L2
set_option Elab.async false
set_option linter.all false
set_option maxRecDepth 100000
/-! ### zip of two things that are drawn -/
namespace PySem
open Sem (wp)
structure Ap2 (z TO i1 i2 : Addr) (fp1 fp2 : List Addr) : Prop where
  z1 : z ∉ fp1
  z2 : z ∉ fp2
  o1 : TO ∉ fp1
  o2 : TO ∉ fp2
  i12 : i1 ∉ fp2
  i21 : i2 ∉ fp1
section
variable {prog : Program} {w : World} {A : Around} {E : Value → Shared → Prop} {s : Shared} {z TI TO i1 i2 : Addr} {k n1 n2 : Nat} {a b : Value} {fp1 fp2 : List Addr} {P1 P2 : Nat → Value → Prop} {S1 S2 : Nat → Heap → Prop}
theorem zipD_item {Q : Value → Shared → Prop} (D1 : Draws prog w A i1 fp1 n1 P1 S1) (D2 : Draws prog w A i2 fp2 n2 P2 S2) (D : Ap5 z TI TO i1 i2)
    (B : Ap2 z TO i1 i2 fp1 fp2) (hz : IsZip s.heap z TI TO .none) (hTI : IsPair s.heap TI (.ref i1) (.ref i2)) (hTO : IsPair s.heap TO a b) (h1 : S1 k s.heap) (h2 : S2 k s.heap) (hx : k < n1) (hy : k < n2)
    (hQ : ∀ h' tk v1 v2, P1 k v1 → P2 k v2 → IsZip h' z TI TO (rawInt s.heap.objs.size) → IsPair h' TO v1 v2 → S1 (k + 1) h' → S2 (k + 1) h' → IsPair h' s.heap.objs.size v1 v2 →
      (∀ e o, e ≠ z → e ≠ TO → e ≠ i1 → e ≠ i2 → s.heap.get? e = some o → h'.get? e = some o) → Q (.ref s.heap.objs.size) { s with heap := h', toks := tk }) :
    wpAny (model prog w) A (Builtin.«zip.__next__» ⟨[.ref z], []⟩) (fun fin s' => ∃ v, fin = .done (.ret v) ∧ Q v s') E s := by
  show wpAny _ _ (field (.ref z) 2 >>= _) _ _ _
  refine wpAny_bind (wpAny_field hz rfl (x := .bool false) rfl ?_)
  show wpAny _ _ (field (.ref z) 3 >>= _) _ _ _
  refine wpAny_bind (wpAny_field hz rfl (x := .ref TI) rfl (wpAny_bind (wpAny_seqItems hTI rfl ?_)))
  show wpAny _ _ (Builtin.SmallTypes.ownedTupleIsFree (.ref z) >>= _) _ _ _
  refine wpAny_bind ?_
  unfold Builtin.SmallTypes.ownedTupleIsFree
  refine wpAny_bind (wpAny_field hz rfl (x := .none) rfl (wpAny_pure ?_))
  simp only [if_true]
  refine wpAny_bind (wpAny_rule (wpAny_bind (wpAny_field hz rfl (x := .ref TO) rfl (wpAny_bind (wpAny_setField_rec hz (by simp) fun g1 hz1 e1 => ?_)))))
  have hz1 : IsZip g1 z TI TO .ellipsis := hz1
  refine wpAny_bind ?_
  simp only [List.zipIdx_cons, List.zipIdx_nil, List.forIn_cons, List.forIn_nil]
  refine wpAny_bind (wpAny_bind (wpAny_onRaise ?_))
  show wpAny _ _ (Builtin.SmallTypes.nextOf (.ref i1) >>= _) _ _ _
  refine wpAny_bind (D1.item k _ _ _ hx (D1.frame _ _ _ h1 fun q hq o eq => e1.extBut _ _ (fun zz => B.z1 (zz ▸ hq)) eq) fun v1 g2 tk2 p1 j1 e2 => wpAny_pure ?_)
  have o2 : IsPair g2 TO a b := e2.extBut _ _ D.TOi1 (e1.extBut _ _ D.TOz hTO)
  refine wpAny_bind (wpAny_seqItems o2 rfl (wpAny_bind (wpAny_updateSeq_pair o2 fun g3 o3 e3 => wpAny_bind (wpAny_letGo (wpAny_pure ?_)))))
  have o3 : IsPair g3 TO v1 b := o3
  refine wpAny_bind (wpAny_bind (wpAny_onRaise ?_))
  show wpAny _ _ (Builtin.SmallTypes.nextOf (.ref i2) >>= _) _ _ _
  refine wpAny_bind (D2.item k _ _ _ hy (D2.frame _ _ _ h2 fun q hq o eq => e3.extBut _ _ (fun zz => B.o2 (zz ▸ hq)) (e2.extBut _ _ (fun zz => B.i12 (zz ▸ hq)) (e1.extBut _ _ (fun zz => B.z2 (zz ▸ hq)) eq))) fun v2 g4 tk4 p2 j2 e4 => wpAny_pure ?_)
  have o4 : IsPair g4 TO v1 b := e4.extBut _ _ D.TOi2 o3
  refine wpAny_bind (wpAny_seqItems o4 rfl (wpAny_bind (wpAny_updateSeq_pair o4 fun g5 o5 e5 => wpAny_bind (wpAny_letGo (wpAny_pure (wpAny_pure ?_))))))
  have o5 : IsPair g5 TO v1 v2 := o5
  refine wpAny_bind (wpAny_seqItems o5 rfl (wpAny_bind (wpAny_newTuple ?_)))
  have hsz : g5.objs.size = s.heap.objs.size := by rw [e5.1, e4.1, e3.1, e2.1, e1.1]
  have z5 : IsZip g5 z TI TO .ellipsis := e5.extBut _ _ D.TOz.symm (e4.extBut _ _ D.i2z.symm (e3.extBut _ _ D.TOz.symm (e2.extBut _ _ D.i1z.symm hz1)))
  have kk : ∀ e o, e ≠ z → e ≠ TO → e ≠ i1 → e ≠ i2 → s.heap.get? e = some o → g5.get? e = some o := fun e o n1 n2 n3 n4 q => e5.extBut _ _ n2 (e4.extBut _ _ n4 (e3.extBut _ _ n2 (e2.extBut _ _ n3 (e1.extBut _ _ n1 q))))
  have j1' : S1 (k + 1) g5 := D1.frame _ _ _ j1 fun q hq o eq => e5.extBut _ _ (fun zz => B.o1 (zz ▸ hq)) (e4.extBut _ _ (fun zz => B.i21 (zz ▸ hq)) (e3.extBut _ _ (fun zz => B.o1 (zz ▸ hq)) eq))
  have j2' : S2 (k + 1) g5 := D2.frame _ _ _ j2 fun q hq o eq => e5.extBut _ _ (fun zz => B.o2 (zz ▸ hq)) eq
  have zlt : z < g5.objs.size := Heap.lt_size z5
  show wpAny _ _ (Builtin.SmallTypes.ownedTupleHandOut (.ref z) (.ref g5.objs.size) >>= _) _ _ _
  refine wpAny_bind ?_
  unfold Builtin.SmallTypes.ownedTupleHandOut
  have z6 : IsZip (g5.push { cls := .type "tuple", data := .seq #[v1, v2] }) z TI TO .ellipsis := Heap.get?_push_of_some _ z5
  refine wpAny_bind (wpAny_setField_rec z6 (by simp) fun g7 z7 e7 => ?_)
  have z7 : IsZip g7 z TI TO (rawInt g5.objs.size) := z7
  refine wpAny_setField_rec z7 (by simp) fun g8 z8 e8 => ?_
  have z8 : IsZip g8 z TI TO (rawInt g5.objs.size) := z8
  have up : ∀ e o, e ≠ z → g5.get? e = some o → g8.get? e = some o := fun e o n1 q => e8.extBut _ _ n1 (e7.extBut _ _ n1 (Heap.get?_push_of_some _ q))
  have T8 : IsPair g8 g5.objs.size v1 v2 := e8.extBut _ _ (Nat.ne_of_gt zlt) (e7.extBut _ _ (Nat.ne_of_gt zlt) (Heap.get?_push_size _ rfl))
  rw [hsz] at z8 T8
  refine wpAny_pure ⟨_, rfl, ?_⟩
  show Q (.ref g5.objs.size) _
  rw [hsz]
  exact hQ g8 _ v1 v2 p1 p2 z8 (up _ _ D.TOz o5) (D1.frame _ _ _ j1' fun q hq o eq => up q o (fun zz => B.z1 (zz ▸ hq)) eq) (D2.frame _ _ _ j2' fun q hq o eq => up q o (fun zz => B.z2 (zz ▸ hq)) eq) T8 fun e o n1 n2 n3 n4 q => up e o n1 (kk e o n1 n2 n3 n4 q)
theorem zipD_end {Q : Fin → Shared → Prop} (D1 : Draws prog w A i1 fp1 n1 P1 S1) (D2 : Draws prog w A i2 fp2 n2 P2 S2) (D : Ap5 z TI TO i1 i2)
    (B : Ap2 z TO i1 i2 fp1 fp2) (hz : IsZip s.heap z TI TO .none) (hTI : IsPair s.heap TI (.ref i1) (.ref i2)) (hTO : IsPair s.heap TO a b) (h1 : S1 k s.heap) (h2 : S2 k s.heap) (hend : k = n1 ∨ (k < n1 ∧ k = n2))
    (hE : ∀ h' tk e, (∀ c o, c ≠ z → c ≠ TO → c ≠ i1 → c ≠ i2 → s.heap.get? c = some o → h'.get? c = some o) → (∃ o, h'.get? e = some o ∧ o.cls = .type "StopIteration") → E (.ref e) { s with heap := h', toks := tk }) :
    wpAny (model prog w) A (Builtin.«zip.__next__» ⟨[.ref z], []⟩) Q E s := by
  show wpAny _ _ (field (.ref z) 2 >>= _) _ _ _
  refine wpAny_bind (wpAny_field hz rfl (x := .bool false) rfl ?_)
  show wpAny _ _ (field (.ref z) 3 >>= _) _ _ _
  refine wpAny_bind (wpAny_field hz rfl (x := .ref TI) rfl (wpAny_bind (wpAny_seqItems hTI rfl ?_)))
  show wpAny _ _ (Builtin.SmallTypes.ownedTupleIsFree (.ref z) >>= _) _ _ _
  refine wpAny_bind ?_
  unfold Builtin.SmallTypes.ownedTupleIsFree
  refine wpAny_bind (wpAny_field hz rfl (x := .none) rfl (wpAny_pure ?_))
  simp only [if_true]
  refine wpAny_bind (wpAny_rule (wpAny_bind (wpAny_field hz rfl (x := .ref TO) rfl (wpAny_bind (wpAny_setField_rec hz (by simp) fun g1 hz1 e1 => ?_)))))
  have hz1 : IsZip g1 z TI TO .ellipsis := hz1
  refine wpAny_bind ?_
  simp only [List.zipIdx_cons, List.zipIdx_nil, List.forIn_cons, List.forIn_nil]
  refine wpAny_bind (wpAny_bind (wpAny_onRaise ?_))
  show wpAny _ _ (Builtin.SmallTypes.nextOf (.ref i1) >>= _) _ _ _
  rcases hend with hk | ⟨hk, hk2⟩
  · subst hk
    refine wpAny_bind (D1.done _ _ _ (D1.frame _ _ _ h1 fun q hq o eq => e1.extBut _ _ (fun zz => B.z1 (zz ▸ hq)) eq) fun g2 ev e2 he => ?_)
    obtain ⟨oe, hoe, hce⟩ := he
    have z2 : IsZip g2 z TI TO .ellipsis := e2 _ _ D.i1z.symm hz1
    have hez : ev ≠ z := fun q => by subst q; rw [z2] at hoe; cases hoe; simp at hce
    exact wpAny_setField_rec z2 (by simp) fun g3 _ e3 => hE g3 _ ev (fun c o n1 _ n3 _ q => e3.extBut _ _ n1 (e2 _ _ n3 (e1.extBut _ _ n1 q))) ⟨oe, e3.extBut _ _ hez hoe, hce⟩
  · refine wpAny_bind (D1.item k _ _ _ hk (D1.frame _ _ _ h1 fun q hq o eq => e1.extBut _ _ (fun zz => B.z1 (zz ▸ hq)) eq) fun v1 g2 tk2 p1 j1 e2 => wpAny_pure ?_)
    have o2 : IsPair g2 TO a b := e2.extBut _ _ D.TOi1 (e1.extBut _ _ D.TOz hTO)
    refine wpAny_bind (wpAny_seqItems o2 rfl (wpAny_bind (wpAny_updateSeq_pair o2 fun g3 o3 e3 => wpAny_bind (wpAny_letGo (wpAny_pure ?_)))))
    refine wpAny_bind (wpAny_bind (wpAny_onRaise ?_))
    show wpAny _ _ (Builtin.SmallTypes.nextOf (.ref i2) >>= _) _ _ _
    have h2' := D2.frame _ _ _ h2 fun q hq o eq => e3.extBut _ _ (fun zz => B.o2 (zz ▸ hq)) (e2.extBut _ _ (fun zz => B.i12 (zz ▸ hq)) (e1.extBut _ _ (fun zz => B.z2 (zz ▸ hq)) eq))
    rw [hk2] at h2'
    refine wpAny_bind (D2.done _ _ _ h2' fun g4 ev e4 he => ?_)
    obtain ⟨oe, hoe, hce⟩ := he
    have z4 : IsZip g4 z TI TO .ellipsis := e4 _ _ D.i2z.symm (e3.extBut _ _ D.TOz.symm (e2.extBut _ _ D.i1z.symm hz1))
    have hez : ev ≠ z := fun q => by subst q; rw [z4] at hoe; cases hoe; simp at hce
    exact wpAny_setField_rec z4 (by simp) fun g5 _ e5 => hE g5 _ ev (fun c o n1 n2 n3 n4 q => e5.extBut _ _ n1 (e4 _ _ n4 (e3.extBut _ _ n2 (e2.extBut _ _ n3 (e1.extBut _ _ n1 q))))) ⟨oe, e5.extBut _ _ hez hoe, hce⟩
theorem nextD_item {Q : Option Value → Shared → Prop} (D1 : Draws prog w A.in1 i1 fp1 n1 P1 S1) (D2 : Draws prog w A.in1 i2 fp2 n2 P2 S2) (D : Ap5 z TI TO i1 i2)
    (B : Ap2 z TO i1 i2 fp1 fp2) (hz : IsZip s.heap z TI TO .none) (hTI : IsPair s.heap TI (.ref i1) (.ref i2)) (hTO : IsPair s.heap TO a b) (h1 : S1 k s.heap) (h2 : S2 k s.heap) (hx : k < n1) (hy : k < n2)
    (hQ : ∀ h' tk v1 v2, P1 k v1 → P2 k v2 → IsZip h' z TI TO (rawInt s.heap.objs.size) → IsPair h' TO v1 v2 → S1 (k + 1) h' → S2 (k + 1) h' → IsPair h' s.heap.objs.size v1 v2 →
      (∀ e o, e ≠ z → e ≠ TO → e ≠ i1 → e ≠ i2 → s.heap.get? e = some o → h'.get? e = some o) → Q (some (.ref s.heap.objs.size)) { s with heap := h', toks := tk }) :
    wpAny (model prog w) A (pyNext (.ref z)) Q E s := by
  have hT : s.TypeIs (.ref z) "zip" := ⟨_, hz, rfl⟩
  unfold pyNext
  exact wpAny_bind (wpAny_attempt (wpAny_callSpecial?_slot (name := Str.ofString "__next__") hT F.slot_zip_next (wpAny_call_entry F.slot_zip_next hT F.entry_zip_next
    (zipD_item D1 D2 D B hz hTI hTO h1 h2 hx hy fun h' tk v1 v2 q1 q2 b1 b2 b3 b4 b5 b6 => wpAny_pure (hQ h' tk v1 v2 q1 q2 b1 b2 b3 b4 b5 b6)) (F.args_zip_next_1 _))))
theorem nextD_end {Q : Option Value → Shared → Prop} (D1 : Draws prog w A.in1 i1 fp1 n1 P1 S1) (D2 : Draws prog w A.in1 i2 fp2 n2 P2 S2) (D : Ap5 z TI TO i1 i2)
    (B : Ap2 z TO i1 i2 fp1 fp2) (hz : IsZip s.heap z TI TO .none) (hTI : IsPair s.heap TI (.ref i1) (.ref i2)) (hTO : IsPair s.heap TO a b) (h1 : S1 k s.heap) (h2 : S2 k s.heap) (hend : k = n1 ∨ (k < n1 ∧ k = n2))
    (hQ : ∀ h' tk, (∀ c o, c ≠ z → c ≠ TO → c ≠ i1 → c ≠ i2 → s.heap.get? c = some o → h'.get? c = some o) → Q none { s with heap := h', toks := tk }) : wpAny (model prog w) A (pyNext (.ref z)) Q E s := by
  have hT : s.TypeIs (.ref z) "zip" := ⟨_, hz, rfl⟩
  unfold pyNext
  refine wpAny_bind (wpAny_attempt (wpAny_callSpecial?_slot (name := Str.ofString "__next__") hT F.slot_zip_next (wpAny_call_entry F.slot_zip_next hT F.entry_zip_next
    (zipD_end D1 D2 D B hz hTI hTO h1 h2 hend fun h' tk e hk he => ?_) (F.args_zip_next_1 _))))
  obtain ⟨o, ho, hc⟩ := he
  refine wpAny_bind (wpAny_isInstance (T := "StopIteration") (b := true) ⟨o, ho, hc⟩ isSubtype_stop ?_)
  exact wpAny_pure (hQ _ _ hk)
end
end PySem
set_option Elab.async false
set_option linter.all false
set_option maxRecDepth 100000
/-! ### zip of a tuple and a list -/
namespace PySem
end PySem
namespace L2
open PySem PySem.Spec PyProof.Rows Wd
section
variable {X : Cx}
end
end L2
set_option Elab.async false
set_option linter.all false
set_option maxRecDepth 100000
/-! ### zip of a text and a tuple -/
namespace PySem
end PySem
namespace L2
open PySem PySem.Spec PyProof.Rows Wd
section
variable {X : Cx}
end
end L2
set_option Elab.async false
set_option linter.all false
set_option maxRecDepth 100000
namespace L2
open PySem PySem.Spec PyProof.Rows Wd
section
variable {X : Cx}
end
end L2
set_option linter.all false
/-! maps: words for letters -/
namespace Wd
/-- what a letter becomes -/
def img (ws : List (List L)) (x : L) : List L := if x.val < 6 then ws.getD x.val [] else bk (ws.getD (x.val - 6) [])
/-- what a word becomes, not yet reduced -/
def sub (ws : List (List L)) (u : List L) : List L := u.flatMap (img ws)
/-- letters of the first n -/
def InM (n : Nat) (u : List L) : Prop := ∀ x ∈ u, x.val % 6 < n
end Wd
set_option Elab.async false
set_option linter.all false
set_option maxRecDepth 100000
namespace PySem
section
variable {prog : Program} {w : World} {A : Around} {E : Value → Shared → Prop}
end
end PySem
namespace L2
open PySem PySem.Spec PyProof.Rows Wd
section
variable {X : Cx} {pos : Pos}
end
end L2
set_option Elab.async false
set_option linter.all false
set_option maxRecDepth 100000
set_option maxHeartbeats 0
namespace L2
open PySem PySem.Spec PyProof.Rows Wd
section
variable {X : Cx}
def rFind1 : V → List V → Hp → VK → Prop := fun x vs H Q => ∃ z y, x = .str z ∧ vs = [.str y] ∧ Q (.int (Txt.find z y)) H
theorem mt_find1 : MtR X "str.find" rFind1 := by
  intro pins s σ H x vs v us Q I rx rv h
  obtain ⟨z, y, rfl, rfl, q⟩ := h
  obtain ⟨t, rfl⟩ := rx
  obtain ⟨u1, rfl, ⟨t1, rfl⟩⟩ := vals1 rv
  exact SC.find ⟨.int _, H, I.tok _, ⟨_, rfl⟩, q⟩
theorem ix_listK {K : PySem.W.Frag} (hK : X.K = K) : IxR X (rIxL K) := by subst hK; exact ix_list
theorem ix_tupK {K : PySem.W.Frag} (hK : X.K = K) : IxR X (rIxT K) := by subst hK; exact ix_tup
end
end L2
namespace L2
open PySem PySem.Spec PyProof.Rows Wd
end L2
namespace Kx
open PySem PySem.Spec PyProof.Rows L2 Wd
end Kx
set_option Elab.async false
set_option linter.all false
set_option maxRecDepth 100000
namespace L2
open PySem PySem.Spec PyProof.Rows Wd
section
variable {X : Cx}
/-! ### list.insert, a text turned about, repr of an int -/
theorem pt_dnot {i o : Expr} {ty td : TE} {pos : Pos} (hu : X.A.units + 1 < cLine) (hi : PE X i ty) (ho : PE X o td) (h1 : behindInMarks .NotIn o = false) : PT X (.Compare i [.NotIn] [o] pos) (tB (tDNotIn ty td)) := pt_cmp (pc_dnotin hu hi ho) h1
end
end L2
set_option Elab.async false
set_option linter.all false
set_option maxRecDepth 100000
set_option maxHeartbeats 0
/-! ### the mathematics of holes -/
namespace Wd
/-- a surface as letters -/
structure Srf (u : List L) : Prop where
  ne : u ≠ []
  nd : u.Nodup
  iv : ∀ x ∈ u, inv x ∈ u
  le : u.length ≤ 12
theorem Srf.pos {u : List L} (S : Srf u) : 0 < u.length := List.length_pos_iff.mpr S.ne
def letH (u : List L) (g : Nat) : L := u.getD ((g + 1) % u.length) 0
def stepH (u : List L) (g : Nat) : Nat := u.idxOf (inv (letH u g))
theorem letH_get {u : List L} (S : Srf u) (g : Nat) : u[(g + 1) % u.length]? = some (letH u g) := by
  have h := Nat.mod_lt (g + 1) S.pos
  unfold letH
  rw [List.getD_eq_getElem?_getD, List.getElem?_eq_getElem h]
  rfl
theorem letH_mem {u : List L} (S : Srf u) (g : Nat) : letH u g ∈ u := List.mem_of_getElem? (letH_get S g)
theorem stepH_lt {u : List L} (S : Srf u) (g : Nat) : stepH u g < u.length := List.idxOf_lt_length_of_mem (S.iv _ (letH_mem S g))
/-- gaps that were seen -/
structure Sn (u : List L) (S : List Nat) : Prop where
  nd : S.Nodup
  lt : ∀ g ∈ S, g < u.length
theorem sub_le : ∀ (n : Nat) (S : List Nat), S.Nodup → (∀ g ∈ S, g < n) → S.length ≤ n
  | 0, S, _, h => by
    cases S with
    | nil => exact Nat.le_refl _
    | cons a r => exact absurd (h a List.mem_cons_self) (Nat.not_lt_zero _)
  | n + 1, S, nd, h => by
    by_cases hn : n ∈ S
    · have q := sub_le n (S.erase n) (nd.erase n) fun g hg => by
        have := (List.Nodup.mem_erase_iff nd).mp hg
        have := h g this.2
        omega
      rw [List.length_erase_of_mem hn] at q
      omega
    · have q := sub_le n S nd fun g hg => by
        have h1 := h g hg
        have h2 : g ≠ n := fun e => hn (e ▸ hg)
        omega
      omega
theorem Sn.le {u : List L} {S : List Nat} (h : Sn u S) : S.length ≤ u.length := sub_le _ _ h.nd h.lt
theorem Sn.snoc {u : List L} {S : List Nat} (h : Sn u S) {g : Nat} (hg : g < u.length) (hn : g ∉ S) : Sn u (S ++ [g]) := by
  refine ⟨?_, fun x hx => ?_⟩
  · rw [List.nodup_append]
    refine ⟨h.nd, by simp, fun a ha b hb e => ?_⟩
    rw [List.mem_singleton] at hb
    subst hb
    exact hn (e ▸ ha)
  · rcases List.mem_append.mp hx with h1 | h1
    · exact h.lt x h1
    · rw [List.mem_singleton] at h1
      exact h1 ▸ hg
theorem Sn.nil (u : List L) : Sn u [] := ⟨List.nodup_nil, fun _ h => absurd h (by simp)⟩
def walkH (u : List L) : Nat → Nat → List Nat → List L → List Nat × List L
  | 0, _, S, w => (S, w)
  | n + 1, g, S, w => if g ∈ S then (S, w) else walkH u n (stepH u g) (S ++ [g]) (w ++ [letH u g])
/-- the walk from a gap -/
def wk (u : List L) (g : Nat) (S : List Nat) (w : List L) : List Nat × List L := walkH u (u.length + 1 - S.length) g S w
theorem wk_in {u : List L} {g : Nat} {S : List Nat} {w : List L} (h : g ∈ S) : wk u g S w = (S, w) := by
  unfold wk
  cases u.length + 1 - S.length with
  | zero => rfl
  | succ n => unfold walkH; rw [if_pos h]
theorem wk_out {u : List L} {g : Nat} {S : List Nat} {w : List L} (hs : Sn u S) (hg : g < u.length) (h : g ∉ S) : wk u g S w = wk u (stepH u g) (S ++ [g]) (w ++ [letH u g]) := by
  have h1 := (hs.snoc hg h).le
  rw [List.length_append, List.length_singleton] at h1
  unfold wk
  rw [List.length_append, List.length_singleton]
  have e : u.length + 1 - S.length = (u.length + 1 - (S.length + 1)) + 1 := by omega
  rw [e]
  show (if g ∈ S then (S, w) else _) = _
  rw [if_neg h]
theorem walk_len (u : List L) : ∀ (n g : Nat) (S : List Nat) (w : List L), w.length ≤ (walkH u n g S w).2.length
  | 0, _, _, _ => Nat.le_refl _
  | n + 1, g, S, w => by
    unfold walkH
    split
    · exact Nat.le_refl _
    · have := walk_len u n (stepH u g) (S ++ [g]) (w ++ [letH u g])
      rw [List.length_append, List.length_singleton] at this
      omega
theorem wk_ne {u : List L} {g : Nat} {S : List Nat} (hs : Sn u S) (hg : g < u.length) (h : g ∉ S) : (wk u g S []).2 ≠ [] := by
  rw [wk_out hs hg h]
  have := walk_len u (u.length + 1 - (S ++ [g]).length) (stepH u g) (S ++ [g]) ([] ++ [letH u g])
  intro e
  unfold wk at e
  rw [e] at this
  simp at this
/-- the holes that were found before a gap, and the gaps that were seen -/
def holS (u : List L) : Nat → List Nat × List (List L)
  | 0 => ([], [])
  | i + 1 => if i ∈ (holS u i).1 then holS u i else ((wk u i (holS u i).1 []).1, (holS u i).2 ++ [(wk u i (holS u i).1 []).2])
theorem hol_len (u : List L) : ∀ i, (holS u i).2.length ≤ i
  | 0 => Nat.le_refl _
  | i + 1 => by
    have := hol_len u i
    unfold holS
    split
    · omega
    · show ((holS u i).2 ++ [_]).length ≤ i + 1
      rw [List.length_append, List.length_singleton]
      omega
theorem hol_in {u : List L} {i : Nat} (h : i ∈ (holS u i).1) : holS u (i + 1) = holS u i := by
  show (if _ then _ else _) = _
  rw [if_pos h]
theorem hol_out {u : List L} {i : Nat} (h : i ∉ (holS u i).1) : holS u (i + 1) = ((wk u i (holS u i).1 []).1, (holS u i).2 ++ [(wk u i (holS u i).1 []).2]) := by
  show (if _ then _ else _) = _
  rw [if_neg h]
/-- the pairs of the first k letters -/
def fam (k : Nat) : List L := (List.range k).flatMap fun j => if h : j < 6 then [⟨j, by omega⟩, ⟨j + 6, by omega⟩] else []
theorem fam_ok : ∀ k : Fin 7, (fam k.val).Nodup ∧ (∀ x ∈ fam k.val, inv x ∈ fam k.val) ∧ (fam k.val).length = 2 * k.val := by decide
theorem srf_of {k : Nat} {u : List L} (h1 : 1 ≤ k) (h6 : k ≤ 6) (p : u.Perm (fam k)) : Srf u := by
  obtain ⟨a, b, c⟩ := fam_ok ⟨k, by omega⟩
  have hl := p.length_eq
  have c : (fam k).length = 2 * k := c
  refine ⟨fun e => ?_, (p.nodup_iff).mpr a, fun x hx => p.mem_iff.mpr (b x (p.mem_iff.mp hx)), by omega⟩
  subst e
  rw [c] at hl
  simp at hl
  omega
def hol (u : List L) : List (List L) := (holS u u.length).2
end Wd
namespace Kx
open PySem PySem.Spec PyProof.Rows L2 Wd
theorem at_one (u : List L) (x : L) (i : Nat) : StrLaws.At (toS u) (toS [x]) (toS u).length i ↔ u[i]? = some x := by
  unfold StrLaws.At
  rw [toS_length, toS_length, StrLaws.subAt_eq, toS_length, toS_cps, toS_cps, beq_iff_eq, ← List.map_drop, ← List.map_take]
  simp only [List.length_singleton]
  constructor
  · rintro ⟨h1, h2⟩
    have h2 := map_cp_inj h2
    have : (u.drop i).take 1 = [u[i]] := by rw [List.drop_eq_getElem_cons (by omega)]; rfl
    rw [this] at h2
    rw [List.getElem?_eq_getElem (by omega)]
    exact congrArg some (List.cons.inj h2).1
  · intro h
    obtain ⟨hl, e⟩ := List.getElem?_eq_some_iff.mp h
    refine ⟨by omega, ?_⟩
    rw [List.drop_eq_getElem_cons hl, e]
    rfl
theorem idx_at {u : List L} {x : L} (h : x ∈ u) : ∃ rest, Builtin.Str.occurrences (toS u) (toS [x]) 0 (toS u).length 1 = u.idxOf x :: rest := by
  have hlt := List.idxOf_lt_length_of_mem h
  have hx : u[u.idxOf x]? = some x := by rw [List.getElem?_eq_getElem hlt]; exact congrArg some (List.getElem_idxOf hlt)
  rcases StrLaws.occ_head (toS u) (toS [x]) 1 (Nat.le_refl 1) with ⟨h0, hn⟩ | ⟨i, r, h0, hi, hn⟩
  · exact absurd ((at_one u x _).mpr hx) (hn _)
  · refine ⟨r, ?_⟩
    rw [h0]
    have hi := (at_one u x i).mp hi
    have : i = u.idxOf x := by
      rcases Nat.lt_trichotomy i (u.idxOf x) with h1 | h1 | h1
      · have q := List.not_of_lt_findIdx (p := (· == x)) h1
        obtain ⟨hl, e⟩ := List.getElem?_eq_some_iff.mp hi
        exact absurd (beq_iff_eq.mpr e) (by simpa using q)
      · exact h1
      · exact absurd ((at_one u x _).mpr hx) (hn _ h1)
    rw [this]
theorem none_of {H H' : Hp} {a : Addr} (s : Same H H') (h : H' a = none) : H a = none := by
  cases e : H a with
  | none => rfl
  | some o => exact absurd (s _ _ e) (by rw [h]; intro z; cases z)
/-- gaps that were seen, as a dict's keys -/
def sk (S : List Nat) : List (Key × V) := S.map fun g : Nat => (Sum.inl (g : Int), V.bl true)
theorem sk_get (S : List Nat) (g : Nat) : (valV (sk S) (Sum.inl (g : Int))).isSome = decide (g ∈ S) := by
  rw [← valV_any]
  unfold sk
  rw [List.any_map, Bool.eq_iff_iff, List.any_eq_true, decide_eq_true_iff]
  constructor
  · rintro ⟨x, hx, e⟩
    have e : (Sum.inl (x : Int) : Key) = Sum.inl (g : Int) := of_decide_eq_true e
    have e := Sum.inl.inj e
    have : x = g := by omega
    exact this ▸ hx
  · intro h
    exact ⟨g, h, decide_eq_true rfl⟩
theorem sk_put {S : List Nat} {g : Nat} (h : g ∉ S) : putK (sk S) (Sum.inl (g : Int)) (V.bl true) = sk (S ++ [g]) := by
  have e := sk_get S g
  rw [decide_eq_false h] at e
  rw [putK_new _ (by cases h : valV (sk S) (Sum.inl (g : Int)) with | none => rfl | some v => rw [h] at e; cases e)]
  unfold sk
  rw [List.map_append]
  rfl
theorem sk_len (S : List Nat) : (sk S).length = S.length := by unfold sk; rw [List.length_map]
def spHole : Sp := fun vs H Q _ => ∃ (u : List L) (g : Nat) (a : Addr) (S : List Nat), vs = [tx u, .int g, .ref a] ∧ Srf u ∧ g < u.length ∧ Sn u S ∧ H a = some (.dK (sk S)) ∧
  ∀ H', H' a = some (.dK (sk (wk u g S []).1)) → Sn u (wk u g S []).1 → SameB a H H' → Q (tx (wk u g S []).2) H'
def spHoles : Sp := fun vs H Q _ => ∃ u, vs = [tx u] ∧ Srf u ∧ ∀ (l : Addr) (H' : Hp), H l = none → H' l = some (.lst ((hol u).map tx)) → Same H H' → Q (.ref l) H'
theorem hol_txs (u : List L) (i : Nat) : ((holS u i).2.map tx).length ≤ i := by
  rw [List.length_map]
  exact hol_len u i
/-- gaps as a list of ints -/
def gs (S : List Nat) : List V := S.map fun g : Nat => V.int (g : Int)
end Kx
set_option Elab.async false
set_option linter.all false
set_option maxRecDepth 100000
set_option maxHeartbeats 0
namespace Wd
/-- a row of ends of n letters -/
structure RowN (n : Nat) (u : List L) : Prop where
  len : u.length = 2 * n
  nd : u.Nodup
  ins : InM n u
theorem sg_all {n : Nat} (h6 : n ≤ 6) {x : L} (hx : x.val % 6 < n) : x ∈ ([0, 1, 2, 3, 4, 5] : List L).take n ++ ([6, 7, 8, 9, 10, 11] : List L).take n := by
  have q : ∀ (n : Fin 7) (x : L), x.val % 6 < n.val → x ∈ ([0, 1, 2, 3, 4, 5] : List L).take n.val ++ ([6, 7, 8, 9, 10, 11] : List L).take n.val := by decide
  exact q ⟨n, by omega⟩ x hx
theorem row_perm {n : Nat} {u : List L} (h1 : 1 ≤ n) (h6 : n ≤ 6) (p : u.Perm (([0, 1, 2, 3, 4, 5] : List L).take n ++ ([6, 7, 8, 9, 10, 11] : List L).take n)) : RowN n u := by
  have q : ∀ n : Fin 7, (([0, 1, 2, 3, 4, 5] : List L).take n.val ++ ([6, 7, 8, 9, 10, 11] : List L).take n.val).length = 2 * n.val ∧ (([0, 1, 2, 3, 4, 5] : List L).take n.val ++ ([6, 7, 8, 9, 10, 11] : List L).take n.val).Nodup ∧ ∀ x ∈ ([0, 1, 2, 3, 4, 5] : List L).take n.val ++ ([6, 7, 8, 9, 10, 11] : List L).take n.val, x.val % 6 < n.val := by decide
  obtain ⟨a, b, c⟩ := q ⟨n, by omega⟩
  exact ⟨by rw [p.length_eq, a], p.nodup_iff.mpr b, fun x hx => c x (p.mem_iff.mp hx)⟩
end Wd
set_option Elab.async false
set_option linter.all false
set_option maxRecDepth 100000
set_option maxHeartbeats 0
namespace L2
open PySem PySem.Spec PyProof.Rows Wd
section
variable {X : Cx}
end
end L2
namespace Kx
open PySem PySem.Spec PyProof.Rows L2 Wd
end Kx
namespace L2
open PySem PySem.Spec PyProof.Rows Wd
section
variable {X : Cx}
end
end L2
set_option Elab.async false
set_option linter.all false
set_option maxRecDepth 100000
/-! ### min and max of a tuple of two ints -/
namespace L2
open PySem PySem.Spec PyProof.Rows
section
variable {X : Cx}
end
end L2
set_option Elab.async false
set_option linter.all false
set_option maxRecDepth 100000
/-! ### sorted(a text), join of a tuple, a text or a text -/
namespace L2
open PySem PySem.Spec PyProof.Rows
section
variable {prog : Program} {w : World} {A : Around} {E : Value → Shared → Prop} {s : Shared}
end
section
variable {X : Cx}
end
end L2
namespace L2
open PySem PySem.Spec PyProof.Rows
section
variable {X : Cx}
end
end L2
namespace L2
open PySem PySem.Spec PyProof.Rows
section
variable {X : Cx}
end
end L2
set_option Elab.async false
set_option linter.all false
set_option maxRecDepth 100000
/-! ### a dict of the top read by a text, split, int and str of texts -/
namespace L2
open PySem PySem.Spec PyProof.Rows Wd
section
variable {X : Cx}
end
end L2
set_option Elab.async false
set_option linter.all false
set_option maxRecDepth 100000
set_option maxHeartbeats 0
namespace Kx
open PySem PySem.Spec PyProof.Rows L2 Wd
/-! ### what was joined, split again -/
def jn (yl : List Nat) : List (List Nat) → List Nat
  | [] => []
  | [p] => p
  | p :: q :: r => p ++ yl ++ jn yl (q :: r)
/-! ### steps and their words -/
end Kx
namespace L2
open PySem PySem.Spec PyProof.Rows Wd
section
variable {X : Cx} {tg : Expr}
end
end L2
namespace Kx
open PySem PySem.Spec PyProof.Rows L2 Wd
/-- data of steps -/
def dV : V → PyData
  | .int i => .int i
  | .str z => .str z
  | _ => .none
end Kx
set_option Elab.async false
set_option linter.all false
set_option maxRecDepth 100000
set_option maxHeartbeats 0
/-! ### the mathematics of the balance -/
namespace Wd
/-- a surface of k letters -/
structure SK (u : List L) (k : Nat) : Prop where
  pm : u.Perm (fam k)
  lo : 1 ≤ k
  hi : k ≤ 6
theorem SK.srf {u : List L} {k : Nat} (h : SK u k) : Srf u := srf_of h.lo h.hi h.pm
theorem fam_mem : ∀ (k : Fin 7) (x : L), x ∈ fam k.val ↔ x.val % 6 < k.val := by decide
theorem SK.mem {u : List L} {k : Nat} (h : SK u k) (x : L) : x ∈ u ↔ x.val % 6 < k := by
  rw [h.pm.mem_iff]
  exact fam_mem ⟨k, by have := h.hi; omega⟩ x
theorem inv_mod : ∀ x : L, (inv x).val % 6 = x.val % 6 := by decide
/-! places -/
theorem get_idx {u : List L} {x : L} (h : x ∈ u) : u[u.idxOf x]? = some x := by
  have hlt := List.idxOf_lt_length_of_mem h
  rw [List.getElem?_eq_getElem hlt]
  exact congrArg some (List.getElem_idxOf hlt)
theorem idx_lt {u : List L} {x : L} (h : x ∈ u) : u.idxOf x < u.length := List.idxOf_lt_length_of_mem h
theorem idx_inj {u : List L} {x y : L} (hx : x ∈ u) (hy : y ∈ u) (h : u.idxOf x = u.idxOf y) : x = y := by
  have h1 := get_idx hx
  have h2 := get_idx hy
  rw [h, h2] at h1
  exact (Option.some.inj h1).symm
/-- how many places one goes round -/
def rfI (u : List L) (a b : L) : Int := ((u.idxOf b : Int) - (u.idxOf a : Int)) % (u.length : Int)
theorem mod_val {n a b : Nat} (ha : a < n) (hb : b < n) : ((b : Int) - (a : Int)) % (n : Int) = if a ≤ b then (b : Int) - a else (b : Int) - a + n := by
  split
  · exact Int.emod_eq_of_lt (by omega) (by omega)
  · have : (b : Int) - a = ((b : Int) - a + n) + (n : Int) * (-1) := by omega
    rw [this, Int.add_mul_emod_self_left, Int.emod_eq_of_lt (by omega) (by omega)]
    omega
theorem rf_val {u : List L} {a b : L} (ha : a ∈ u) (hb : b ∈ u) : rfI u a b = if u.idxOf a ≤ u.idxOf b then (u.idxOf b : Int) - (u.idxOf a : Int) else (u.idxOf b : Int) - (u.idxOf a : Int) + (u.length : Int) := mod_val (idx_lt ha) (idx_lt hb)
/-- whether one meets z ahead of x's back, going round from x -/
def ic (u : List L) (x z : L) : Int := if rfI u x z < rfI u x (inv x) then 1 else 0
def sd (u : List L) (x y : L) : Int := ic u x y - ic u x (inv y)
/-- four unlike ends -/
structure Four (u : List L) (x y : L) : Prop where
  mx : x ∈ u
  mX : inv x ∈ u
  my : y ∈ u
  mY : inv y ∈ u
  n1 : u.idxOf x ≠ u.idxOf (inv x)
  n2 : u.idxOf x ≠ u.idxOf y
  n3 : u.idxOf x ≠ u.idxOf (inv y)
  n4 : u.idxOf (inv x) ≠ u.idxOf y
  n5 : u.idxOf (inv x) ≠ u.idxOf (inv y)
  n6 : u.idxOf y ≠ u.idxOf (inv y)
theorem four_of {u : List L} (U : Srf u) {x y : L} (hx : x ∈ u) (hy : y ∈ u) (h1 : x ≠ y) (h2 : x ≠ inv y) : Four u x y := by
  have hX := U.iv x hx
  have hY := U.iv y hy
  refine ⟨hx, hX, hy, hY, fun e => inv_ne x (idx_inj hx hX e).symm, fun e => h1 (idx_inj hx hy e), fun e => h2 (idx_inj hx hY e), fun e => h2 ?_, fun e => h1 ?_, fun e => inv_ne y (idx_inj hy hY e).symm⟩
  · rw [← idx_inj hX hy e, inv_inv]
  · have := congrArg inv (idx_inj hX hY e)
    rw [inv_inv, inv_inv] at this
    exact this
theorem Four.swap {u : List L} {x y : L} (F : Four u x y) : Four u y x := ⟨F.my, F.mY, F.mx, F.mX, F.n6, F.n2.symm, F.n4.symm, F.n3.symm, F.n5.symm, F.n1⟩
theorem sd_anti {u : List L} {x y : L} (F : Four u x y) : sd u y x = - sd u x y := by
  have a1 := idx_lt F.mx
  have a2 := idx_lt F.mX
  have a3 := idx_lt F.my
  have a4 := idx_lt F.mY
  have n1 := F.n1; have n2 := F.n2; have n3 := F.n3; have n4 := F.n4; have n5 := F.n5; have n6 := F.n6
  unfold sd ic
  rw [rf_val F.mx F.my, rf_val F.mx F.mX, rf_val F.mx F.mY, rf_val F.my F.mx, rf_val F.my F.mY, rf_val F.my F.mX]
  generalize u.idxOf x = a at *
  generalize u.idxOf (inv x) = b at *
  generalize u.idxOf y = c at *
  generalize u.idxOf (inv y) = d at *
  generalize u.length = n at *
  grind
/-! turned about, and begun elsewhere -/
/-! sums -/
def sumN : Nat → (Nat → Int) → Int
  | 0, _ => 0
  | n + 1, f => sumN n f + f n
theorem sumN_congr {f g : Nat → Int} : ∀ (n : Nat), (∀ i, i < n → f i = g i) → sumN n f = sumN n g
  | 0, _ => rfl
  | n + 1, h => by
    show sumN n f + f n = sumN n g + g n
    rw [sumN_congr n fun i hi => h i (by omega), h n (by omega)]
theorem sumN_zero {f : Nat → Int} (n : Nat) (h : ∀ i, i < n → f i = 0) : sumN n f = 0 := by
  rw [sumN_congr n h]
  clear h
  induction n with
  | zero => rfl
  | succ n ih =>
    show sumN n (fun _ => 0) + 0 = 0
    rw [ih]
    rfl
theorem sumN_add (f g : Nat → Int) : ∀ n, sumN n (fun i => f i + g i) = sumN n f + sumN n g
  | 0 => rfl
  | n + 1 => by
    show sumN n (fun i => f i + g i) + (f n + g n) = (sumN n f + f n) + (sumN n g + g n)
    rw [sumN_add f g n]
    omega
theorem sumN_single {f : Nat → Int} {j : Nat} : ∀ (n : Nat), j < n → (∀ i, i < n → i ≠ j → f i = 0) → sumN n f = f j
  | 0, h, _ => absurd h (Nat.not_lt_zero _)
  | n + 1, h, hz => by
    show sumN n f + f n = f j
    by_cases e : j = n
    · subst e
      rw [sumN_zero j fun i hi => hz i (by omega) (by omega), Int.zero_add]
    · rw [sumN_single n (by omega) fun i hi => hz i (by omega), hz n (by omega) (fun e' => e e'.symm), Int.add_zero]
/-! the balance -/
def lt6 (j : Nat) : L := if h : j < 12 then ⟨j, h⟩ else 0
def dfi (w : List L) (x : L) : Int := ((w.count x : Nat) : Int) - ((w.count (inv x) : Nat) : Int)
theorem lt6_val {j : Nat} (h : j < 6) : (lt6 j).val = j := by
  unfold lt6
  rw [dif_pos (by omega)]
theorem small_mod : ∀ x : L, x.val < 6 → (inv x).val = x.val + 6 := by decide
theorem SK.four {u : List L} {k : Nat} (h : SK u k) {x y : Nat} (hx : x < k) (hy : y < k) (hn : x ≠ y) : Four u (lt6 x) (lt6 y) := by
  have h6 := h.hi
  have vx := lt6_val (show x < 6 by omega)
  have vy := lt6_val (show y < 6 by omega)
  refine four_of h.srf ((h.mem _).mpr (by rw [vx]; omega)) ((h.mem _).mpr (by rw [vy]; omega)) (fun e => hn ?_) (fun e => ?_)
  · rw [← vx, ← vy, e]
  · have := small_mod (lt6 y) (by omega)
    rw [← e] at this
    omega
theorem dfi_app (v w : List L) (x : L) : dfi (v ++ w) x = dfi v x + dfi w x := by
  unfold dfi
  rw [List.count_append, List.count_append]
  omega
theorem dfi_nil (x : L) : dfi [] x = 0 := rfl
/-! words around holes -/
def tau (u : List L) (y l : L) : Int := if l = y ∨ l = inv y then 0 else ic u y (inv l) - ic u y l
def tsum (u : List L) (y : L) : List L → Int
  | [] => 0
  | l :: w => tau u y l + tsum u y w
/-- one letter's part -/
theorem dfi_one (l x : L) : dfi [l] x = (if l = x then 1 else 0) - (if l = inv x then 1 else 0) := by
  have c : ∀ a b : L, (([a].count b : Nat) : Int) = if a = b then 1 else 0 := fun a b => by
    rw [List.count_singleton]
    by_cases h : a = b
    · rw [if_pos h, h]
      simp
    · rw [if_neg h]
      simp [h]
  unfold dfi
  rw [c, c]
theorem l_small : ∀ l : L, l = lt6 (l.val % 6) ∨ l = inv (lt6 (l.val % 6)) := by decide
theorem l_other : ∀ (l : L) (x : Fin 6), x.val ≠ l.val % 6 → l ≠ lt6 x.val ∧ l ≠ inv (lt6 x.val) := by decide
theorem l_both : ∀ l : L, ¬ (l = lt6 (l.val % 6) ∧ l = inv (lt6 (l.val % 6))) := by decide
theorem z_one {u : List L} {k : Nat} (h : SK u k) {y : Nat} (hy : y < k) {l : L} (hl : l ∈ u) : sumN k (fun x => if x = y then 0 else dfi [l] (lt6 x) * sd u (lt6 x) (lt6 y)) = tau u (lt6 y) l := by
  have h6 := h.hi
  have hj := (h.mem l).mp hl
  rw [sumN_single k hj]
  · unfold tau
    by_cases e : l.val % 6 = y
    · subst e
      rw [if_pos rfl, if_pos (l_small l)]
    · rw [if_neg e]
      have q := l_other l ⟨y, by omega⟩ (fun z => e z.symm)
      rw [if_neg (fun z => z.elim q.1 q.2), dfi_one]
      have F := h.four hj hy e
      have an := sd_anti F.swap
      rcases l_small l with e1 | e1
      · have e2 : ¬ l = inv (lt6 (l.val % 6)) := fun z => l_both l ⟨e1, z⟩
        rw [if_pos e1, if_neg e2, an, ← e1]
        unfold sd
        omega
      · have e2 : ¬ l = lt6 (l.val % 6) := fun z => l_both l ⟨z, e1⟩
        have e3 : lt6 (l.val % 6) = inv l := by rw [e1, inv_inv, ← e1]
        rw [if_neg e2, if_pos e1, an, e3]
        unfold sd
        rw [inv_inv]
        omega
  · intro i hi hn
    by_cases e : i = y
    · rw [if_pos e]
    · rw [if_neg e, dfi_one]
      have q := l_other l ⟨i, by omega⟩ hn
      rw [if_neg q.1, if_neg q.2]
      omega
theorem z_all {u : List L} {k : Nat} (h : SK u k) {y : Nat} (hy : y < k) : ∀ w : List L, (∀ l ∈ w, l ∈ u) → sumN k (fun x => if x = y then 0 else dfi w (lt6 x) * sd u (lt6 x) (lt6 y)) = tsum u (lt6 y) w
  | [], _ => sumN_zero k fun x _ => by
    split
    · rfl
    · rw [dfi_nil, Int.zero_mul]
  | l :: w, hw => by
    have ih := z_all h hy w fun z hz => hw z (List.mem_cons_of_mem _ hz)
    show _ = tau u (lt6 y) l + tsum u (lt6 y) w
    rw [← ih, ← z_one h hy (hw l List.mem_cons_self), ← sumN_add]
    refine sumN_congr k fun x _ => ?_
    have e : dfi (l :: w) (lt6 x) = dfi [l] (lt6 x) + dfi w (lt6 x) := dfi_app [l] w (lt6 x)
    rw [e]
    split
    · rfl
    · rw [Int.add_mul]
end Wd
set_option Elab.async false
set_option linter.all false
set_option maxRecDepth 100000
set_option maxHeartbeats 0
namespace L2
open PySem PySem.Spec PyProof.Rows
section
variable {X : Cx}
end
end L2
namespace Kx
open PySem PySem.Spec PyProof.Rows L2 Wd
/-! ### sorted texts -/
/-! ### surfaces by their signs -/
/-- the ends of k letters -/
def ends (k : Nat) : List L := (List.range k).map lt6 ++ bk ((List.range k).map lt6)
/-! ### ways -/
end Kx
set_option Elab.async false
set_option linter.all false
set_option maxRecDepth 100000
/-! ### a tuple and a tuple that is not void -/
namespace L2
open PySem PySem.Spec PyProof.Rows
section
variable {prog : Program} {w : World} {A : Around} {E : Value → Shared → Prop} {s : Shared}
theorem cat_void {t b : Addr} {ws : List Value} {Q : Value → Shared → Prop} (ht : IsTup s.heap t ([] : List Value).toArray) (hb : IsTup s.heap b ws.toArray) (h1 : Q (.ref b) s) : wpAny (model prog w) A (binaryOp .Add (.ref t) (.ref b)) Q E s := by
  obtain ⟨⟨c1, d1, o1, l1⟩, e1, g1, n, k1⟩ := id ht
  obtain ⟨⟨c2, d2, o2, l2⟩, e2, g2, n2, k2⟩ := id hb
  simp only at g1 k1 g2 k2
  subst g1 k1 g2 k2
  exact concat_meets ⟨_, e1, rfl⟩ ⟨_, e2, rfl⟩ noFill_tuple_add seq_tuple_add PySem.F.slot_tuple_add PySem.F.entry_tuple_add (PySem.F.args_tuple_add_2 _ _) (tuple_addW0 t b _ ws.toArray n n2 d1 d2 l1 l2 rfl) ⟨e1, e2, h1⟩
end
section
variable {X : Cx}
end
end L2
set_option Elab.async false
set_option linter.all false
set_option maxRecDepth 100000
/-! ### any slice of a tuple -/
namespace HT
open PySem PySem.Spec PyProof.Rows
section
variable {prog : Program} {w : World} {A : Around} {E : Value → Shared → Prop} {s : Shared}
theorem cut_whole {t sl : Addr} {its : Array Value} {vl vu : Value} {lo hi : Option Int} {Q : Value → Shared → Prop} (ht : IsTup s.heap t its) (hs : s.heap.IsSliceOf sl vl vu .none) (pl : IsPart vl lo) (pu : IsPart vu hi)
    (hw : sIx its.size 0 lo = 0 ∧ sIx its.size its.size hi = its.size) (h : Q (.ref t) s) : wpAny (model prog w) A (getItem (.ref t) (.ref sl)) Q E s := by
  obtain ⟨os, hos, hcs, hds⟩ := id hs
  have hTs : s.TypeIs (.ref sl) "slice" := ⟨os, hos, hcs⟩
  unfold getItem
  try with_reducible refine wpAny_holding ?_
  first | refine wpAny_bind (wpAny_pure ?_) | skip
  refine wpAny_bind (wpAny_sequenceKey ht.typeIs (by decide) ?_)
  refine wpAny_bind (wpAny_callSpecial?_slot (name := Str.ofString "__getitem__") ht.typeIs PyProof.Rows.slot_tuple_getitem (wpAny_call_entry PyProof.Rows.slot_tuple_getitem ht.typeIs entry_tuple_getitem ?_ (args_tuple_getitem _ _)))
  show wpAny _ _ (Builtin.Tuple.tupleItemsOf (.ref t) >>= _) _ _ s
  refine wpAny_bind (tupleItemsOf_ ht (wpAny_bind (wpAny_typeOf hTs ?_)))
  rw [if_pos (by decide)]
  refine wpAny_bind (sliceApplied_gen hs pl pu ?_)
  show wpAny _ _ (if (((sIx its.size 0 lo : Nat) : Int) == 0 && (1 : Int) == 1 && (sIx its.size its.size hi - sIx its.size 0 lo) == its.size) = true then _ else _) _ _ s
  rw [if_pos (by rw [hw.1, hw.2]; simp)]
  refine wpAny_bind ?_
  unfold Builtin.Tuple.tupleIsExact
  refine wpAny_bind (wpAny_typeOf ht.typeIs (wpAny_pure ?_))
  rw [if_pos (by decide)]
  refine wpAny_bind (wpAny_rule ?_)
  first
    | exact wpAny_pure ⟨_, rfl, wpAny_pure h⟩
    | exact wpAny_bind (wpAny_pure (wpAny_pure ⟨_, rfl, wpAny_pure h⟩))
end
end HT
namespace L2
open PySem PySem.Spec PyProof.Rows Wd
def rSlTE (K : PySem.W.Frag) : V → Option Int → Option Int → Hp → VK → Prop := fun x lo hi H Q => ∃ a xs, x = .ref a ∧ SqT K H a xs ∧ (cutV xs lo hi = xs → Q (.ref a) H) ∧ ∀ p, H p = none → Q (.ref p) (upd H p (.tup (cutV xs lo hi)))
theorem sl_tupE {X : Cx} : SlR X (rSlTE X.K) := by
  intro pins s σ H x v vl vu lo hi sl Q I rx hs pl pu h
  obtain ⟨a, xs, rfl, hx, hw, q⟩ := h
  by_cases hh : HT.sIx xs.length 0 lo = 0 ∧ HT.sIx xs.length xs.length hi = xs.length
  · cases rx
    obtain ⟨its, r, ht, hz⟩ := I.tuple hx
    have hlen : its.toArray.size = xs.length := by rw [List.size_toArray]; exact r.length.symm
    have e : cutV xs lo hi = xs := by unfold cutV; rw [hh.1, hh.2, List.drop_zero, Nat.sub_zero, List.take_length]
    exact ⟨"tuple", _, PyProof.Rows.slot_tuple_getitem.lookup, ht.typeIs, HT.cut_whole ht hs pl pu (by rw [hlen]; exact hh) ⟨.ref a, H, I, rfl, hw e⟩⟩
  · exact sl_tup pins s σ H (.ref a) v vl vu lo hi sl Q I rx hs pl pu ⟨a, xs, rfl, hx, hh, q⟩
end L2
set_option Elab.async false
set_option linter.all false
set_option maxRecDepth 100000
set_option maxHeartbeats 0
namespace L2
open PySem PySem.Spec PyProof.Rows Wd
section
variable {X : Cx}
/-- one tuple behind another, wherever it stands -/
def rCatU : R2 := fun x y H Q => ∃ a b xs ys, x = .ref a ∧ y = .ref b ∧ H a = some (.tup xs) ∧ H b = some (.tup ys) ∧ xs.length + ys.length ≤ sizeLine ∧ ∀ p H', Same H H' → H' p = some (.tup (xs ++ ys)) → Q (.ref p) H'
theorem op_catU : OpR X (binaryOp .Add) rCatU := by
  intro pins s σ H x y v u Q I rx ry h
  obtain ⟨a, b, xs, ys, ex, ey, ha, hb, hz, q⟩ := h
  by_cases hx : xs = []
  · subst ex ey hx
    cases rx
    cases ry
    obtain ⟨its, r1, p1, _⟩ := I.tuple (SqT.of ha)
    obtain ⟨its2, r2, p2, _⟩ := I.tuple (SqT.of hb)
    cases r1
    exact cat_void p1 p2 ⟨.ref b, H, I, rfl, q b H (Same.refl _) hb⟩
  · exact op_catT pins s σ H x y v u Q I rx ry ⟨a, b, xs, ys, ex, ey, SqT.of ha, SqT.of hb, hx, hz, fun e => q a H (Same.refl _) (by rw [e, List.append_nil]; exact ha), fun _ p hp => q p _ (Same.new hp) upd_same⟩
/-- is, is not, of truths -/
theorem op_notB : OpR X (compareOp .IsNot) (fun x y H Q => ∃ a b, x = .bl a ∧ y = .bl b ∧ Q (.bl (!(a == b))) H) := by
  intro pins s σ H x y v u Q I rx ry h
  obtain ⟨a, b, rfl, rfl, q⟩ := h
  cases rx
  cases ry
  refine wpAny_isNot_plain (by cases a <;> cases b <;> rfl) ⟨.bl _, H, I, ?_, q⟩
  cases a <;> cases b <;> rfl
/-- repr of any plain data -/
theorem call_repr_V (hg : X.A.guards = some []) (hu : X.A.units + 64 < cLine) : CallR X (.builtin "repr") (fun xs H Q => ∃ v d, xs = [v] ∧ Dt H v d ∧ Sh d ∧ (∀ i, d = .int i → i.natAbs.log2 < 1920) ∧ Q (.str d.shown) H) := by
  intro pins s σ H xs us Q I r h
  obtain ⟨v, d, rfl, q, S, hi, hQ⟩ := h
  obtain ⟨u, rfl, ru⟩ := vals1 r
  cases q with
  | non => cases ru; exact P.repr_of_none ⟨.str _, H, I.tok _, ⟨_, rfl⟩, hQ⟩
  | bl b => cases ru; exact P.repr_of_bool ⟨.str _, H, I.tok _, ⟨_, rfl⟩, hQ⟩
  | int i => obtain ⟨t, rfl⟩ := ru; exact P.repr_of_int (hi i rfl) ⟨.str _, H, I.tok _, ⟨_, rfl⟩, hQ⟩
  | str x => obtain ⟨t, rfl⟩ := ru; exact P.repr_of_str ⟨.str _, H, I.tok _, ⟨_, rfl⟩, hQ⟩ S.sz
  | lst e qs => exact call_repr_dat hg hu pins s σ H _ _ Q I (.cons ru .nil) ⟨_, _, rfl, .lst e qs, S, hQ⟩
  | tup e qs => exact call_repr_dat hg hu pins s σ H _ _ Q I (.cons ru .nil) ⟨_, _, rfl, .tup e qs, S, hQ⟩
end
end L2
namespace L2
open PySem PySem.Spec PyProof.Rows Wd
/-- any slice of a tuple, wherever it stands -/
def rSlU : V → Option Int → Option Int → Hp → VK → Prop := fun x lo hi H Q => ∃ a xs, x = .ref a ∧ H a = some (.tup xs) ∧ ∀ p H', Same H H' → H' p = some (.tup (cutV xs lo hi)) → Q (.ref p) H'
theorem sl_tupU {X : Cx} : SlR X rSlU := by
  intro pins s σ H x v vl vu lo hi sl Q I rx hs pl pu h
  obtain ⟨a, xs, rfl, hx, q⟩ := h
  exact sl_tupE pins s σ H _ v vl vu lo hi sl Q I rx hs pl pu ⟨a, xs, rfl, SqT.of hx, fun e => q a H (Same.refl _) (by rw [e]; exact hx), fun p hp => q p _ (Same.new hp) upd_same⟩
mutual
theorem Dt.mono {H H' : Hp} (ok : ∀ b xs, H b = some (.lst xs) → H' b = some (.lst xs)) (ok2 : ∀ b xs, H b = some (.tup xs) → H' b = some (.tup xs)) : ∀ {v : V} {d : PyData}, Dt H v d → Dt H' v d
  | _, _, .non => .non
  | _, _, .bl b => .bl b
  | _, _, .int i => .int i
  | _, _, .str x => .str x
  | _, _, .lst e q => .lst (ok _ _ e) (Dts.mono ok ok2 q)
  | _, _, .tup e q => .tup (ok2 _ _ e) (Dts.mono ok ok2 q)
theorem Dts.mono {H H' : Hp} (ok : ∀ b xs, H b = some (.lst xs) → H' b = some (.lst xs)) (ok2 : ∀ b xs, H b = some (.tup xs) → H' b = some (.tup xs)) : ∀ {vs : List V} {ds : List PyData}, Dts H vs ds → Dts H' vs ds
  | _, _, .nil => .nil
  | _, _, .cons q qs => .cons (Dt.mono ok ok2 q) (Dts.mono ok ok2 qs)
end
theorem Dt.same {H H' : Hp} (s : Same H H') {v : V} {d : PyData} (h : Dt H v d) : Dt H' v d := h.mono (fun _ _ e => s _ _ e) fun _ _ e => s _ _ e
theorem fits40 {d : PyData} (h : d.leavesShort 40 = true) (hw : d.weight ≤ 2 ^ 18) : d.shown.length ≤ sizeLine := by
  have := PyData.shown_le 40 (by decide) d h
  have e : sizeLine = 16777216 := sizeLine_eq
  rw [e]
  omega
/-- small data -/
structure Sm (d : PyData) : Prop where
  sh : d.showable = true
  nd : d.hasDict = false
  dp : d.depth ≤ 4
  lv : d.leavesShort 40 = true
  wt : d.weight ≤ 400
  nt : ∀ i, d = .int i → i.natAbs.log2 < 1920
theorem sm_word {u : List L} (h : u.length ≤ 400) : Sm (.str (toS u)) := by
  obtain ⟨h1, h2, h3, h4⟩ := Kx.dws_show [u]
  refine ⟨rfl, rfl, Nat.zero_le _, ?_, ?_, fun i e => by cases e⟩
  · have h4 : (PyData.leavesShort 13 (.str (toS u)) && true) = true := h4
    rwa [Bool.and_true] at h4
  · show (toS u).cps.size ≤ 400
    rw [toS_size]
    exact h
theorem all_sm {ds : List PyData} (h : ∀ d ∈ ds, Sm d) : PyData.showableAll ds = true ∧ PyData.hasDictAll ds = false ∧ PyData.depthAll ds ≤ 4 ∧ PyData.leavesShortAll 40 ds = true ∧ PyData.weightAll ds ≤ ds.length * 401 := by
  induction ds with
  | nil => exact ⟨rfl, rfl, Nat.zero_le _, rfl, Nat.zero_le _⟩
  | cons d r ih =>
    obtain ⟨a, b, c, e, f⟩ := ih fun x hx => h x (List.mem_cons_of_mem _ hx)
    have S := h d List.mem_cons_self
    refine ⟨?_, ?_, ?_, ?_, ?_⟩
    · show (PyData.showable d && PyData.showableAll r) = true
      rw [S.sh, a]; rfl
    · show (PyData.hasDict d || PyData.hasDictAll r) = false
      rw [S.nd, b]; rfl
    · show max (PyData.depth d) (PyData.depthAll r) ≤ 4
      have := S.dp
      omega
    · show (PyData.leavesShort 40 d && PyData.leavesShortAll 40 r) = true
      rw [S.lv, e]; rfl
    · show PyData.weight d + 1 + PyData.weightAll r ≤ (r.length + 1) * 401
      have := S.wt
      omega
theorem sh_tupD {ds : List PyData} (h : ∀ d ∈ ds, Sm d) (hl : ds.length ≤ 100) : Sh (.tuple ds) := by
  obtain ⟨a, b, c, e, f⟩ := all_sm h
  have : ds.length * 401 ≤ 100 * 401 := Nat.mul_le_mul_right _ hl
  exact ⟨a, b, by show PyData.depthAll ds + 1 ≤ 10; omega, fits40 e (by show PyData.weightAll ds ≤ 2 ^ 18; omega)⟩
theorem sh_lstD {ds : List PyData} (h : ∀ d ∈ ds, Sm d) (hl : ds.length ≤ 100) : Sh (.list ds) := by
  obtain ⟨a, b, c, e, f⟩ := all_sm h
  have : ds.length * 401 ≤ 100 * 401 := Nat.mul_le_mul_right _ hl
  exact ⟨a, b, by show PyData.depthAll ds + 1 ≤ 10; omega, fits40 e (by show PyData.weightAll ds ≤ 2 ^ 18; omega)⟩
theorem sh_sm {d : PyData} (S : Sm d) : Sh d := ⟨S.sh, S.nd, by have := S.dp; omega, fits40 S.lv (by have := S.wt; omega)⟩
/-- parts, each small data -/
def Prts (H : Hp) (xs : List V) : Prop := ∀ x ∈ xs, ∃ d, Dt H x d ∧ Sm d
theorem Prts.dts {H : Hp} : ∀ {xs : List V}, Prts H xs → ∃ ds, Dts H xs ds ∧ (∀ d ∈ ds, Sm d) ∧ ds.length = xs.length
  | [], _ => ⟨[], .nil, fun d h => (by cases h), rfl⟩
  | x :: r, h => by
    obtain ⟨d, hd, S⟩ := h x List.mem_cons_self
    obtain ⟨ds, h1, h2, h3⟩ := Prts.dts (xs := r) fun y hy => h y (List.mem_cons_of_mem _ hy)
    refine ⟨d :: ds, .cons hd h1, fun e he => ?_, by rw [List.length_cons, List.length_cons, h3]⟩
    rcases List.mem_cons.mp he with rfl | he
    · exact S
    · exact h2 e he
theorem Prts.same {H H' : Hp} (s : Same H H') {xs : List V} (h : Prts H xs) : Prts H' xs := fun x hx => let ⟨d, a, b⟩ := h x hx; ⟨d, a.same s, b⟩
theorem Prts.nil {H : Hp} : Prts H [] := fun x h => by cases h
theorem Prts.cons {H : Hp} {x : V} {r : List V} {d : PyData} (h : Dt H x d) (S : Sm d) (q : Prts H r) : Prts H (x :: r) := fun y hy => by
  rcases List.mem_cons.mp hy with rfl | hy
  · exact ⟨d, h, S⟩
  · exact q y hy
theorem Prts.app {H : Hp} {a b : List V} (h : Prts H a) (q : Prts H b) : Prts H (a ++ b) := fun y hy => by
  rcases List.mem_append.mp hy with hy | hy
  · exact h y hy
  · exact q y hy
theorem Prts.cut {H : Hp} {a : List V} {lo hi : Option Int} (h : Prts H a) : Prts H (cutV a lo hi) := fun y hy => h y (cutV_mem hy)
end L2
namespace Kx
open PySem PySem.Spec PyProof.Rows L2 Wd
/-- a thing that may be shown: small, or a tuple or a list of small ones -/
inductive Bn (H : Hp) : V → PyData → Prop
  | one {x : V} {d : PyData} (h : Dt H x d) (S : Sm d) (nr : ∀ a, x ≠ .ref a) : Bn H x d
  | tup {a : Addr} {xs : List V} {ds : List PyData} (h : H a = some (.tup xs)) (p : Prts H xs) (q : Dts H xs ds) (S : ∀ d ∈ ds, Sm d) (hl : xs.length ≤ 20) (hd : ds.length = xs.length) : Bn H (.ref a) (.tuple ds)
  | lst {a : Addr} {xs : List V} {ds : List PyData} (h : H a = some (.lst xs)) (q : Dts H xs ds) (S : ∀ d ∈ ds, Sm d) (hl : xs.length ≤ 20) (hd : ds.length = xs.length) : Bn H (.ref a) (.list ds)
theorem Bn.dt {H : Hp} {x : V} {d : PyData} (h : Bn H x d) : Dt H x d := by
  cases h with
  | one h S nr => exact h
  | tup h p q S hl hd => exact .tup h q
  | lst h q S hl hd => exact .lst h q
theorem Bn.sh {H : Hp} {x : V} {d : PyData} (h : Bn H x d) : Sh d ∧ ∀ i, d = .int i → i.natAbs.log2 < 1920 := by
  cases h with
  | one h S nr => exact ⟨sh_sm S, S.nt⟩
  | tup h p q S hl hd => exact ⟨sh_tupD S (by omega), fun i e => by cases e⟩
  | lst h q S hl hd => exact ⟨sh_lstD S (by omega), fun i e => by cases e⟩
theorem bn_tup {H : Hp} {a : Addr} {xs : List V} (h : H a = some (.tup xs)) (p : Prts H xs) (hl : xs.length ≤ 20) : ∃ d, Bn H (.ref a) d := by
  obtain ⟨ds, h1, h2, h3⟩ := p.dts
  exact ⟨_, .tup h p h1 h2 hl h3⟩
theorem bn_lst {H : Hp} {a : Addr} {xs : List V} (h : H a = some (.lst xs)) (p : Prts H xs) (hl : xs.length ≤ 20) : ∃ d, Bn H (.ref a) d := by
  obtain ⟨ds, h1, h2, h3⟩ := p.dts
  exact ⟨_, .lst h h1 h2 hl h3⟩
end Kx

set_option Elab.async false
set_option linter.all false
namespace Kx
open PySem PySem.Spec PyProof.Rows L2 Wd
theorem b_bool : bootBuiltins "bool" = some (.type "bool") := by kernel_rfl
end Kx
set_option Elab.async false
set_option linter.all false
set_option maxRecDepth 100000
set_option maxHeartbeats 0
namespace L2
open PySem PySem.Spec PyProof.Rows Wd
section
variable {X : Cx}
end
end L2
set_option Elab.async false
set_option linter.all false
set_option maxRecDepth 100000
/-! ### zip of two tuples -/
namespace PySem
abbrev zv1 (h : Heap) (p : Addr) : Heap := h.push { cls := .type "tuple_iterator", data := .fields #[.ref p, .int 0 0] }
abbrev zv2 (h : Heap) (p q : Addr) : Heap := (zv1 h p).push { cls := .type "tuple_iterator", data := .fields #[.ref q, .int 0 0] }
abbrev zv3 (h : Heap) (p q : Addr) : Heap := (zv2 h p q).push { cls := .type "tuple", data := .seq #[.ref h.objs.size, .ref (zv1 h p).objs.size] }
abbrev zv4 (h : Heap) (p q : Addr) : Heap := (zv3 h p q).push { cls := .type "tuple", data := .seq #[.none, .none] }
abbrev zv5 (h : Heap) (p q : Addr) : Heap := (zv4 h p q).push { cls := .type "zip", data := .fields #[.none, .bool false, .bool false, .ref (zv2 h p q).objs.size, .ref (zv3 h p q).objs.size] }
set_option maxHeartbeats 2000000 in
theorem meets_zipTT (p q : Addr) (xs ys : Array Value) : Meets (Builtin.«zip.__new__» ⟨[.type "zip", .ref p, .ref q], []⟩) (fun _ R s => s.heap.IsTuple p xs ∧ s.heap.IsTuple q ys ∧ R (.ok (.ret (.ref (zv4 s.heap p q).objs.size))) { s with heap := zv5 s.heap p q }) :=
  .of_wp fun prog w A R s h => by
    obtain ⟨hp, gg, dd, tk, os⟩ := s
    obtain ⟨t1, t2, h⟩ := h
    have hsub := sub_zip
    have T1 : Heap.IsTuple (Shared.heap ⟨hp, gg, dd, tk, os⟩) p xs := t1
    have T2 : Heap.IsTuple (Shared.heap ⟨hp.push { cls := .type "tuple_iterator", data := .fields #[.ref p, .int 0 0] }, gg, dd, tk, os⟩) q ys := Heap.IsTuple.push t2 _
    wp_walk using wpAny_pyIter_tuple T1, wpAny_pyIter_tuple T2
    exact ⟨_, rfl, h⟩
theorem call_zipTT {prog : Program} {w : World} {A : Around} {E : Value → Shared → Prop} {s : Shared} {p q : Addr} {xs ys : Array Value} {Q : Value → Shared → Prop} (hx : s.heap.IsTuple p xs) (hy : s.heap.IsTuple q ys)
    (h : ∀ h', IsZip h' (s.heap.objs.size + 4) (s.heap.objs.size + 2) (s.heap.objs.size + 3) .none → IsPair h' (s.heap.objs.size + 2) (.ref s.heap.objs.size) (.ref (s.heap.objs.size + 1)) → IsPair h' (s.heap.objs.size + 3) .none .none →
      h'.IsTupleIter s.heap.objs.size p 0 → h'.IsTupleIter (s.heap.objs.size + 1) q 0 → (∀ c o, s.heap.get? c = some o → h'.get? c = some o) → Q (.ref (s.heap.objs.size + 4)) { s with heap := h' }) :
    wpAny (model prog w) A (call (.type "zip") [.ref p, .ref q]) Q E s := by
  refine callType_new F.called_zip (by decide) (F.typeCall_zip_2 _ _) (F.newCall_zip_2 _ _) (fun obj => F.args_object_init_3 obj _ _) F.entry_zip_new (meets_zipTT p q xs ys) ⟨hx, hy, ?_⟩
  have n1 : (zv1 s.heap p).objs.size = s.heap.objs.size + 1 := Heap.size_push ..
  have n2 : (zv2 s.heap p q).objs.size = s.heap.objs.size + 2 := by rw [Heap.size_push, n1]
  have n3 : (zv3 s.heap p q).objs.size = s.heap.objs.size + 3 := by rw [Heap.size_push, n2]
  have n4 : (zv4 s.heap p q).objs.size = s.heap.objs.size + 4 := by rw [Heap.size_push, n3]
  have g5 : (zv5 s.heap p q).get? (zv4 s.heap p q).objs.size = some _ := Heap.get?_push_size _ rfl
  have g4 : (zv5 s.heap p q).get? (zv3 s.heap p q).objs.size = some _ := Heap.get?_push_of_some _ (Heap.get?_push_size _ rfl)
  have g3 : (zv5 s.heap p q).get? (zv2 s.heap p q).objs.size = some _ := Heap.get?_push_of_some _ (Heap.get?_push_of_some _ (Heap.get?_push_size _ rfl))
  have g2 : (zv5 s.heap p q).get? (zv1 s.heap p).objs.size = some _ := Heap.get?_push_of_some _ (Heap.get?_push_of_some _ (Heap.get?_push_of_some _ (Heap.get?_push_size _ rfl)))
  have g1 : (zv5 s.heap p q).get? s.heap.objs.size = some _ := Heap.get?_push_of_some _ (Heap.get?_push_of_some _ (Heap.get?_push_of_some _ (Heap.get?_push_of_some _ (Heap.get?_push_size _ rfl))))
  show _ ∧ _
  rw [n2, n3, n4] at g5
  rw [n1, n2] at g3
  rw [n3] at g4
  rw [n1] at g2
  rw [n4]
  exact ⟨⟨_, g5, rfl⟩, h _ g5 g3 g4 ⟨_, g1, rfl, rfl⟩ ⟨_, g2, rfl, rfl⟩ fun c o q => Heap.get?_push_of_some _ (Heap.get?_push_of_some _ (Heap.get?_push_of_some _ (Heap.get?_push_of_some _ (Heap.get?_push_of_some _ q))))⟩
end PySem
namespace L2
open PySem PySem.Spec PyProof.Rows Wd
/-- pairs of the items of two tuples -/
def Itzv (K : PySem.W.Frag) (p q : Addr) : It := ⟨fun i H => ∃ xs ys x y, SqT K H p xs ∧ SqT K H q ys ∧ xs[i]? = some x ∧ ys[i]? = some y,
  fun i H v H' => ∃ (T : Addr) (x y : V), H T = none ∧ v = .ref T ∧ (∀ xs, SqT K H p xs → xs[i]? = some x) ∧ (∀ ys, SqT K H q ys → ys[i]? = some y) ∧ H' = upd H T (.tup [x, y]),
  fun i H => ∃ xs ys, SqT K H p xs ∧ SqT K H q ys ∧ i = min xs.length ys.length⟩
/-- the two things that are zipped stand apart from the records -/
theorem far2 {s : Shared} {z TI TO i1 i2 p q : Addr} {a c : Value} {i : Nat} {xs ys : Array Value} (D : Ap5 z TI TO i1 i2) (s1 : IsZip s.heap z TI TO .none) (s2 : IsPair s.heap TI (.ref i1) (.ref i2)) (s3 : IsPair s.heap TO a c) (s4 : s.heap.IsTupleIter i1 p i) (s5 : s.heap.IsTupleIter i2 q i)
    (p1 : IsTup s.heap p xs) (p2 : IsTup s.heap q ys) (hTO : p ≠ TO) (hTO2 : q ≠ TO) : (p ≠ i1 ∧ q ≠ i2) ∧ Ap2 z TO i1 i2 [i1, p] [i2, q] := by
  obtain ⟨o1, g1, c1, _⟩ := s4
  obtain ⟨o2, g2, c2, _⟩ := s5
  obtain ⟨o3, g3, c3, _⟩ := p1
  obtain ⟨o4, g4, c4, _⟩ := p2
  have n1 : p ≠ i1 := fun e => by rw [e, g1] at g3; cases g3; rw [c1] at c3; simp at c3
  have n2 : q ≠ i2 := fun e => by rw [e, g2] at g4; cases g4; rw [c2] at c4; simp at c4
  have n3 : p ≠ z := fun e => by rw [e, s1] at g3; cases g3; simp at c3
  have n4 : q ≠ z := fun e => by rw [e, s1] at g4; cases g4; simp at c4
  have n5 : q ≠ TO := hTO2
  have n6 : q ≠ i1 := fun e => by rw [e, g1] at g4; cases g4; rw [c1] at c4; simp at c4
  have n7 : p ≠ i2 := fun e => by rw [e, g2] at g3; cases g3; rw [c2] at c3; simp at c3
  refine ⟨⟨n1, n2⟩, ?_, ?_, ?_, ?_, ?_, ?_⟩ <;> simp only [List.mem_cons, List.not_mem_nil, or_false, not_or]
  · exact ⟨D.i1z.symm, n3.symm⟩
  · exact ⟨D.i2z.symm, n4.symm⟩
  · exact ⟨D.TOi1, hTO.symm⟩
  · exact ⟨D.TOi2, n5.symm⟩
  · exact ⟨D.i12, n6.symm⟩
  · exact ⟨D.i12.symm, n7.symm⟩
theorem turn_zipTT {P : Program} {w : World} {K : PySem.W.Frag} {elts : List Expr} {k : Nat} {pos : Pos} {z TI TO i1 i2 : Addr} {p q : Addr} (D : Ap5 z TI TO i1 i2) (hTO : p ≠ TO) (hTO2 : q ≠ TO) :
    Turn P w K (.Tuple elts k pos) (Itzv K p q) [z, TI, TO, i1, i2] z (fun i h => IsZip h z TI TO .none ∧ IsPair h TI (.ref i1) (.ref i2) ∧ (∃ a b, IsPair h TO a b) ∧ h.IsTupleIter i1 p i ∧ h.IsTupleIter i2 q i) where
  mem := by simp
  obj := fun i h st b hb => by
    obtain ⟨s1, s2, ⟨a, c, s3⟩, ⟨o1, s4, _, d4⟩, ⟨o2, s5, _, d5⟩⟩ := st
    simp only [List.mem_cons, List.not_mem_nil, or_false] at hb
    rcases hb with rfl | rfl | rfl | rfl | rfl
    · exact ⟨_, s1, fun v q => by cases q⟩
    · exact ⟨_, s2, fun v q => by cases q⟩
    · exact ⟨_, s3, fun v q => by cases q⟩
    · exact ⟨_, s4, fun v q => by rw [d4] at q; cases q⟩
    · exact ⟨_, s5, fun v q => by rw [d5] at q; cases q⟩
  keep := fun i h h' st kk => by
    obtain ⟨s1, s2, ⟨a, c, s3⟩, ⟨o1, s4, r4⟩, ⟨o2, s5, r5⟩⟩ := st
    exact ⟨kk z (by simp) _ s1, kk TI (by simp) _ s2, ⟨a, c, kk TO (by simp) _ s3⟩, ⟨o1, kk i1 (by simp) _ s4, r4⟩, ⟨o2, kk i2 (by simp) _ s5, r5⟩⟩
  item := by
    intro X hP hw hK hc i pins s σ H E I hf st hg
    subst hP hw hK
    obtain ⟨xs, ys, vx, vy, hq1, hq2, hx, hy⟩ := hg
    obtain ⟨its1, rv1, p1, hz1⟩ := I.tuple hq1
    obtain ⟨its2, rv2, p2, hz2⟩ := I.tuple hq2
    obtain ⟨u1, hu1, ru1⟩ := rv1.get hx
    obtain ⟨u2, hu2, ru2⟩ := rv2.get hy
    obtain ⟨s1, s2, ⟨a, c, s3⟩, s4, s5⟩ := st
    have hu1' : its1.toArray[i]? = some u1 := by simpa using hu1
    have hu2' : its2.toArray[i]? = some u2 := by simpa using hu2
    obtain ⟨np1, np2⟩ := far2 D s1 s2 s3 s4 s5 p1 p2 hTO hTO2
    refine nextD_item (drawsT (by exact I.ok.hd hc) i1 p np1.1 its1.toArray) (drawsT (by exact I.ok.hd hc) i2 q np1.2 its2.toArray) D np2 s1 s2 s3 ⟨s4, p1⟩ ⟨s5, p2⟩ (Array.getElem?_eq_some_iff.mp hu1').1 (Array.getElem?_eq_some_iff.mp hu2').1 fun h' tk v1 v2 w1 w2 b1 b2 b3 b4 b5 b6 => ⟨_, rfl, ?_⟩
    obtain rfl : u1 = v1 := by rw [show its1.toArray[i]? = some v1 from w1] at hu1'; exact (Option.some.inj hu1').symm
    obtain rfl : u2 = v2 := by rw [show its2.toArray[i]? = some v2 from w2] at hu2'; exact (Option.some.inj hu2').symm
    refine wpAny_letOwnedTupleGo_zip b1 fun h2 c1' e2 => ?_
    have there : ∀ b ∈ [z, TI, TO, i1, i2], ∃ o, s.heap.get? b = some o := fun b hb => by
      obtain ⟨o1, q4, _⟩ := s4
      obtain ⟨o2, q5, _⟩ := s5
      simp only [List.mem_cons, List.not_mem_nil, or_false] at hb
      rcases hb with rfl | rfl | rfl | rfl | rfl
      · exact ⟨_, s1⟩
      · exact ⟨_, s2⟩
      · exact ⟨_, s3⟩
      · exact ⟨_, q4⟩
      · exact ⟨_, q5⟩
    have kk : ∀ b o, b ∉ [z, TI, TO, i1, i2] → s.heap.get? b = some o → h2.get? b = some o := fun b o hb e => by
      simp only [List.mem_cons, List.not_mem_nil, or_false, not_or] at hb
      exact e2.extBut _ _ hb.1 (b6 b o hb.1 hb.2.2.1 hb.2.2.2.1 hb.2.2.2.2 e)
    have hTz : s.heap.objs.size ≠ z := Nat.ne_of_gt (Heap.lt_size s1)
    have I2 : Inv X pins σ (upd H s.heap.objs.size (.tup [vx, vy])) { s with heap := h2, toks := tk } :=
      I.stepT (ch := [z, TI, TO, i1, i2]) (its := [u1, u2]) hf kk (Nat.le_refl _) (by show 2 ≤ sizeLine; decide) (.cons ru1 (.cons ru2 .nil)) ⟨_, e2.extBut _ _ hTz b5, rfl, _, rfl⟩ there
    have hnT : H s.heap.objs.size = none := I.hok.fresh (Nat.le_refl _)
    have sTI : IsPair h2 TI (.ref i1) (.ref i2) := e2.extBut _ _ D.TIz (b6 _ _ D.TIz D.TITO D.TIi1 D.TIi2 s2)
    refine ⟨.ref s.heap.objs.size, _, I2, rfl, ⟨s.heap.objs.size, vx, vy, hnT, rfl, fun zs hz => by rw [I.tuple_inj hz hq1]; exact hx, fun zs hz => by rw [I.tuple_inj hz hq2]; exact hy, rfl⟩,
      ⟨c1', sTI, ⟨_, _, e2.extBut _ _ D.TOz b2⟩, b3.1.at fun o q => e2.extBut _ _ D.i1z q, b4.1.at fun o q => e2.extBut _ _ D.i2z q⟩, fun b hb => ?_⟩
    obtain ⟨o, q⟩ := there b hb
    rw [upd_ne (Nat.ne_of_lt (Heap.lt_size q))]
    exact (hf b hb).1
  done := by
    intro X hP hw hK hc i pins s σ H E I hf st hg
    subst hP hw hK
    obtain ⟨xs, ys, hq1, hq2, hi⟩ := hg
    obtain ⟨its1, rv1, p1, hz1⟩ := I.tuple hq1
    obtain ⟨its2, rv2, p2, hz2⟩ := I.tuple hq2
    have hl1 := rv1.length
    have hl2 := rv2.length
    obtain ⟨s1, s2, ⟨a, c, s3⟩, s4, s5⟩ := st
    obtain ⟨np1, np2⟩ := far2 D s1 s2 s3 s4 s5 p1 p2 hTO hTO2
    refine nextD_end (drawsT (by exact I.ok.hd hc) i1 p np1.1 its1.toArray) (drawsT (by exact I.ok.hd hc) i2 q np1.2 its2.toArray) D np2 s1 s2 s3 ⟨s4, p1⟩ ⟨s5, p2⟩ ?_ fun h' tk kk => ⟨rfl, ?_⟩
    · simp only [List.size_toArray]
      omega
    · have nch : ∀ {b u}, H b = some u → b ∉ [z, TI, TO, i1, i2] := fun e q => by rw [(hf _ q).1] at e; cases e
      have k2 : ∀ b o, b ∉ [z, TI, TO, i1, i2] → s.heap.get? b = some o → h'.get? b = some o := fun b o hb e => by
        simp only [List.mem_cons, List.not_mem_nil, or_false, not_or] at hb
        exact kk b o hb.1 hb.2.2.1 hb.2.2.2.1 hb.2.2.2.2 e
      refine I.step (g' := s.gens) (d' := s.drawn) (ch := [z, TI, TO, i1, i2]) (fun b hb => ?_) (fun b o _ _ hc e _ => k2 b o hc e) (fun b o _ _ hc e _ => ⟨o.slots, k2 b o hc e⟩) (fun _ _ _ _ n => n) (fun b o hc e => ⟨o, k2 b o hc e⟩)
        (fun _ _ e => e) (fun _ _ _ e => e) (fun b ps e => ⟨#[], by rw [e]; simp⟩) (fun m hm => ?_) (fun b u e => ?_) I.bare
      · obtain ⟨_, f1, _, f3, f4, f5⟩ := hf b hb
        exact ⟨f3, f1, f4, f5⟩
      · obtain ⟨o, es, ep, ho, r⟩ := hm
        exact ⟨o, es, ep, k2 _ o (fun q => (hf _ q).2.1 rfl) ho, r⟩
      · refine (I.hok b u e).stay (fun c v hc q => k2 c v ?_ q) (fun _ q => q) fun _ _ q => q
        rcases hc with q | q
        · rw [q]; exact nch e
        · exact nch q
  self := fun _ _ _ _ _ st h => wpAny_pyIter_zip st.1 h
section
variable {X : Cx}
def iZipTT (K : PySem.W.Frag) (ta : TA) : TI := fun σ H R => ta σ H fun vs H1 => ∃ p q, vs = [.ref p, .ref q] ∧ (∃ xs, SqT K H1 p xs) ∧ (∃ ys, SqT K H1 q ys) ∧ R (Itzv K p q) H1
theorem pi_zipTT {K : PySem.W.Frag} (hK : X.K = K) {a b : Expr} {ta : TA} {p pos tp : Pos} {elts : List Expr} {k : Nat} (hg : Gl X "zip") (hm : X.mg "zip" = none) (hb : bootBuiltins "zip" = some (.type "zip")) (ha : PA X [a, b] ta) (hs : starEach [a, b] X.env = (false, eval a X.env) :: starEach [b] X.env := by rfl) (hs2 : (backTo pos (starEach [b] X.env)).any (·.1) = false := by rfl) :
    PI X (.Tuple elts k tp) (.Call (.Name "zip" p) [a, b] [] pos) (iZipTT K ta) := by
  subst hK
  intro pins s σ H R I h
  refine Call_ (ld_blt I hg hm hb (PyProof.Rows.callWith_type1 (thn (ha pos pins s σ H _ I h) fun us s1 ⟨vs, H1, I1, r1, q1⟩ => ?_) hs hs2))
  obtain ⟨l1, l2, rfl, ⟨xs, hx⟩, ⟨ys, hy⟩, q⟩ := q1
  obtain ⟨u1, u2, rfl, r3, r4⟩ := vals2 r1
  cases r3
  cases r4
  obtain ⟨its1, rv1, p1, hz1⟩ := I1.tuple hx
  obtain ⟨its2, rv2, p2, hz2⟩ := I1.tuple hy
  refine call_zipTT p1 p2 fun h' b1 b2 b3 b4 b5 b6 => ?_
  have I2 : Inv X pins σ H1 { s1 with heap := h', toks := s1.toks } := I1.kept b6
  have hlt : l1 < s1.heap.objs.size := by obtain ⟨o, e, _⟩ := p1; exact Heap.lt_size e
  have hlt2 : l2 < s1.heap.objs.size := by obtain ⟨o, e, _⟩ := p2; exact Heap.lt_size e
  refine wpAny_pyIter_zip (s := { s1 with heap := h', toks := s1.toks }) b1 ?_
  refine ⟨s1.heap.objs.size + 4, [s1.heap.objs.size + 4, s1.heap.objs.size + 2, s1.heap.objs.size + 3, s1.heap.objs.size, s1.heap.objs.size + 1], _, Itzv X.K l1 l2, H1, rfl, I2,
    turn_zipTT (ap5_mk s1.heap.objs.size) (Nat.ne_of_lt (Nat.lt_of_lt_of_le hlt (Nat.le_add_right _ _))) (Nat.ne_of_lt (Nat.lt_of_lt_of_le hlt2 (Nat.le_add_right _ _))), ⟨b1, b2, ⟨_, _, b3⟩, b4, b5⟩, fun b hb => ?_, q⟩
  have hge : s1.heap.objs.size ≤ b := by
    simp only [List.mem_cons, List.not_mem_nil, or_false] at hb
    rcases hb with rfl | rfl | rfl | rfl | rfl <;> omega
  exact I1.fpOk hge (I1.hok.fresh hge)
end
end L2
set_option Elab.async false
set_option linter.all false
set_option maxRecDepth 100000
/-! ### a tuple turned about -/
namespace HT
open PySem PySem.Spec PyProof.Rows
section
variable {prog : Program} {w : World} {A : Around} {E : Value → Shared → Prop} {s : Shared}
theorem sliceApplied_rev {sl : Addr} {tk : Tok} {n : Nat} {Q : Int × Int × Nat → Shared → Prop} (hs : s.heap.IsSliceOf sl .none .none (.int (-1) tk))
    (h : Q ((n : Int) - 1, -1, n) s) : wpAny (model prog w) A (Builtin.Slice.sliceApplied (.ref sl) (pure (n : Int))) Q E s := by
  obtain ⟨os, hos, hcs, hds⟩ := id hs
  unfold Builtin.Slice.sliceApplied Builtin.Slice.sliceFields
  refine wpAny_bind (wpAny_bind (wpAny_field hos hds (x := .none) rfl (wpAny_bind (wpAny_field hos hds (x := .none) rfl (wpAny_bind (wpAny_field hos hds (x := .int (-1) tk) rfl (wpAny_pure ?_)))))))
  refine wpAny_bind (slicePart_int ?_)
  show wpAny _ _ (if ((-1 : Int) == 0) = true then _ else _) _ _ s
  rw [if_neg (by decide)]
  refine wpAny_bind (slicePart_none (wpAny_bind (slicePart_none (wpAny_bind (wpAny_pure ?_)))))
  have e : Builtin.Slice.slicePlaces ((n : Int) - 1) (-1) (-1) = n := by
    unfold Builtin.Slice.slicePlaces
    rw [if_neg (by decide)]
    by_cases hn : n = 0
    · subst hn; decide
    · rw [if_pos (by omega), show (-(-1) : Int) = 1 from rfl, Int.ediv_one]; omega
  show wpAny _ _ (pure ((n : Int) - 1, (-1 : Int), Builtin.Slice.slicePlaces ((n : Int) - 1) (-1) (-1))) _ _ s
  rw [e]
  exact wpAny_pure h
theorem filterMap_some {α β : Type} {f : α → Option β} {g : α → β} : ∀ {l : List α}, (∀ m ∈ l, f m = some (g m)) → l.filterMap f = l.map g
  | [], _ => rfl
  | a :: r, h => by rw [List.filterMap_cons_some (h a List.mem_cons_self), List.map_cons, filterMap_some fun m hm => h m (List.mem_cons_of_mem _ hm)]
theorem pick_rev (xs : Array Value) : ((List.range xs.size).filterMap fun (m : Nat) => xs[((xs.size : Int) - 1 + (m : Int) * (-1)).toNat]?).toArray = xs.toList.reverse.toArray := by
  congr 1
  have e : ∀ m ∈ List.range xs.size, xs[((xs.size : Int) - 1 + (m : Int) * (-1)).toNat]? = some ((fun m => xs.toList.getD (xs.size - 1 - m) .none) m) := by
    intro m hm
    have hm := List.mem_range.mp hm
    have : ((xs.size : Int) - 1 + (m : Int) * (-1)).toNat = xs.size - 1 - m := by omega
    rw [this]
    have hlt : xs.size - 1 - m < xs.size := by omega
    simp [List.getD, hlt]
  rw [filterMap_some e]
  apply List.ext_getElem?
  intro i
  rw [List.getElem?_map]
  by_cases hi : i < xs.size
  · rw [List.getElem?_range hi, List.getElem?_reverse (by simpa using hi)]
    have hlt : xs.size - 1 - i < xs.size := by omega
    simp [List.getD, hlt]
  · rw [List.getElem?_eq_none (by simpa using hi), List.getElem?_eq_none (by simp; omega)]
    rfl
theorem getItem_tuple_rev {t sl : Addr} {items : Array Value} {tk : Tok} {Q : Value → Shared → Prop} (ht : IsTup s.heap t items) (hs : s.heap.IsSliceOf sl .none .none (.int (-1) tk))
    (h : Q (.ref s.heap.objs.size) { s with heap := s.heap.push { cls := .type "tuple", data := .seq items.toList.reverse.toArray } })
    (hsz : items.size ≤ sizeLine) : wpAny (model prog w) A (getItem (.ref t) (.ref sl)) Q E s := by
  have htake : sizeOk (.seq items.toList.reverse.toArray) := by
    show items.toList.reverse.toArray.size ≤ sizeLine
    rw [List.size_toArray, List.length_reverse, Array.length_toList]
    exact hsz
  obtain ⟨os, hos, hcs, hds⟩ := id hs
  have hTs : s.TypeIs (.ref sl) "slice" := ⟨os, hos, hcs⟩
  unfold getItem
  try with_reducible refine wpAny_holding ?_
  first | refine wpAny_bind (wpAny_pure ?_) | skip
  refine wpAny_bind (wpAny_sequenceKey ht.typeIs (by decide) ?_)
  refine wpAny_bind (wpAny_callSpecial?_slot (name := Str.ofString "__getitem__") ht.typeIs PyProof.Rows.slot_tuple_getitem
    (wpAny_call_entry PyProof.Rows.slot_tuple_getitem ht.typeIs entry_tuple_getitem ?_ (args_tuple_getitem _ _)))
  show wpAny _ _ (Builtin.Tuple.tupleItemsOf (.ref t) >>= _) _ _ s
  refine wpAny_bind (tupleItemsOf_ ht ?_)
  refine wpAny_bind (wpAny_typeOf hTs ?_)
  rw [if_pos (by decide)]
  refine wpAny_bind (sliceApplied_rev hs ?_)
  show wpAny _ _ (if ((((items.size : Nat) : Int) - 1 == 0 && (-1 : Int) == 1 && items.size == items.size) = true) then _ else _) _ _ s
  rw [if_neg (by simp), pick_rev]
  first
    | exact wpAny_bind (m := Builtin.Tuple.tupleExact _) (wpAny_newObj_type (wpAny_pure ⟨_, rfl, wpAny_pure h⟩) htake)
    | exact wpAny_bind (m := Builtin.Tuple.tupleExact _) (wpAny_newObj_type (wpAny_bind (wpAny_pure (wpAny_pure ⟨_, rfl, wpAny_pure h⟩))) htake)
    | exact wpAny_bind (wpAny_bind (m := Builtin.Tuple.tupleExact _) (wpAny_newObj_type (wpAny_pure (wpAny_pure ⟨_, rfl, wpAny_pure h⟩)) htake))
    | exact wpAny_bind (wpAny_bind (m := Builtin.Tuple.tupleExact _) (wpAny_newObj_type (wpAny_pure ⟨_, rfl, wpAny_pure h⟩) htake))
end
end HT
namespace L2
open PySem PySem.Spec PyProof.Rows Wd
section
variable {X : Cx}
def tRevT (te ts : TE) : TE := fun σ H Q => te σ H fun x H1 => ts σ H1 fun k H2 => ∃ a xs, x = .ref a ∧ k = .int (-1) ∧ H2 a = some (.tup xs) ∧ ∀ p, H2 p = none → Q (.ref p) (upd H2 p (.tup xs.reverse))
theorem pe_revT {e st : Expr} {te ts : TE} {pos p2 : Pos} (he : PE X e te) (hs : PE X st ts) : PE X (.Subscript e (.Slice none none (some st) p2) pos) (tRevT te ts) := by
  intro pins s σ H Q I h
  refine Subscript_ (thn (he pins s σ H _ I h) fun v s1 ⟨x, H1, I1, r1, q1⟩ => ?_)
  refine wpAny_Slice ?_
  rw [evalPart_none]
  refine wpAny_pure ?_
  refine wpAny_pure ?_
  rw [evalPart_some]
  refine thn (hs pins s1 σ H1 _ I1 q1) fun vs s3 ⟨k, H3, I3, r3, a, xs, ez, ek, hx, q3⟩ => ?_
  subst ez ek
  cases r1
  obtain ⟨tk, rfl⟩ := r3
  have I4 : Inv X pins σ H3 { s3 with heap := s3.heap.push { cls := .type "slice", data := .fields #[.none, .none, .int (-1) tk] } } := I3.kept (t' := s3.toks) fun b ob q => Heap.get?_push_of_some _ q
  obtain ⟨its, r, ht, hz⟩ := I4.tuple (SqT.of (K := X.K) hx)
  show wpAny (model X.prog X.w) X.A (subscriptTail e (.Slice none none (some st) p2) (.ref a) (.ref s3.heap.objs.size)) (EP X pins σ Q) X.xe { s3 with heap := s3.heap.push { cls := .type "slice", data := .fields #[.none, .none, .int (-1) tk] } }
  refine tail_any (ops := [.ref a, .ref s3.heap.objs.size]) ht.typeIs PyProof.Rows.slot_tuple_getitem.lookup ?_ (by with_unfolding_all rfl)
  refine HT.getItem_tuple_rev (tk := tk) ht ⟨_, Heap.get?_push_size _ rfl, rfl, rfl⟩ ?_ (by rw [List.size_toArray, ← r.length]; exact hz)
  refine ⟨.ref _, _, I4.laid (t' := s3.toks) (o := .tup xs.reverse) (fun b ob q => Heap.get?_push_of_some _ q) (Nat.le_refl _) ?_, rfl, q3 _ (I4.hok.fresh (Nat.le_refl _))⟩
  refine ⟨by rw [List.length_reverse]; exact hz, _, ?_, IsTup.new _ _⟩
  exact r.reverse
end
end L2
namespace L2
open PySem PySem.Spec PyProof.Rows Wd
/-- what repr tells of a thing: plain data, or a dict with nothing in it -/
inductive Shw (H : Hp) : V → Str → Prop
  | dat {v : V} {d : PyData} (h : Dt H v d) (S : Sh d) (hi : ∀ i, d = .int i → i.natAbs.log2 < 1920) : Shw H v d.shown
  | void {a : Addr} (h : H a = some (.dK [])) : Shw H (.ref a) (PyData.shown (.dict []))
theorem Shw.same {H H' : Hp} {v : V} {z : Str} (s : Same H H') (h : Shw H v z) : Shw H' v z := by
  cases h with
  | dat h S hi => exact .dat (h.same s) S hi
  | void h => exact .void (s _ _ h)
theorem call_repr_W {X : Cx} (hg : X.A.guards = some []) (hu : X.A.units + 64 < cLine) : CallR X (.builtin "repr") (fun xs H Q => ∃ v z, xs = [v] ∧ Shw H v z ∧ Q (.str z) H) := by
  intro pins s σ H xs us Q I r h
  obtain ⟨v, z, rfl, q, hQ⟩ := h
  cases q with
  | dat q S hi => exact call_repr_V hg hu pins s σ H _ _ Q I r ⟨_, _, rfl, q, S, hi, hQ⟩
  | @void a q =>
    obtain ⟨u, rfl, ru⟩ := vals1 r
    cases ru
    obtain ⟨_, hsy, vs, kv, ob, es, ep, g, c, d, _, pr, _⟩ := dk_of I.hok q
    cases kv
    have e0 : es = #[] := by
      have := pr.length
      exact Array.eq_empty_of_size_eq_zero (by rw [← Array.length_toList, this]; rfl)
    subst e0
    have rd : Reads s.heap (.ref a) (.dict []) [a] := .dict (as := []) (bs := []) g c.1 d .nil .nil
    refine repr_of_reads' rd rfl (fun _ => by simpa using (beq_eq_false_iff_ne.mp hsy).symm) hg (by show X.A.units + (0 + 1 + 1) < cLine; omega) (fun _ _ e => e) (fun h' u tk hk => ?_) (by decide +kernel)
    exact ⟨.str _, H, I.kept hk, ⟨_, rfl⟩, hQ⟩
end L2
namespace L2
open PySem PySem.Spec PyProof.Rows Wd
theorem call_len_seqK {X : Cx} {K : PySem.W.Frag} (hK : X.K = K) : CallR X (.builtin "len") (fun xs H Q => ∃ p ys, xs = [.ref p] ∧ (SqL K H p ys ∨ SqT K H p ys) ∧ Q (.int ys.length) H) := by
  subst hK
  exact call_len_seq
end L2
set_option Elab.async false
set_option linter.all false
set_option maxRecDepth 100000
set_option maxHeartbeats 0
/-! ### cycles as closed lists -/
namespace Wd
section
variable {α : Type}
/-- y stands right behind x -/
def Adj : List α → α → α → Prop
  | a :: b :: t, x, y => (x = a ∧ y = b) ∨ Adj (b :: t) x y
  | _, _, _ => False
theorem adj_two {a b : α} {t : List α} {x y : α} : Adj (a :: b :: t) x y ↔ (x = a ∧ y = b) ∨ Adj (b :: t) x y := Iff.rfl
theorem adj_one {a x y : α} : Adj [a] x y ↔ False := Iff.rfl
theorem adj_mid : ∀ (l : List α) (c : α) (m : List α) (x y : α), Adj (l ++ c :: m) x y ↔ Adj (l ++ [c]) x y ∨ Adj (c :: m) x y
  | [], c, m, x, y => by simp [adj_one]
  | [a], c, m, x, y => by
    show Adj (a :: c :: m) x y ↔ Adj [a, c] x y ∨ _
    rw [adj_two, adj_two, adj_one]
    simp
  | a :: b :: l, c, m, x, y => by
    have ih := adj_mid (b :: l) c m x y
    show Adj (a :: b :: (l ++ c :: m)) x y ↔ Adj (a :: b :: (l ++ [c])) x y ∨ _
    rw [adj_two, adj_two]
    have ih : Adj (b :: (l ++ c :: m)) x y ↔ Adj (b :: (l ++ [c])) x y ∨ Adj (c :: m) x y := ih
    rw [ih, or_assoc]
theorem adj_mem : ∀ {l : List α} {x y : α}, Adj l x y → x ∈ l ∧ y ∈ l
  | [], _, _, h => h.elim
  | [a], _, _, h => h.elim
  | a :: b :: t, x, y, h => by
    rcases h with ⟨rfl, rfl⟩ | h
    · simp
    · have := adj_mem h
      exact ⟨List.mem_cons_of_mem _ this.1, List.mem_cons_of_mem _ this.2⟩
theorem adj_split : ∀ {l : List α} {x y : α}, Adj l x y → ∃ s t, l = s ++ x :: y :: t
  | [], _, _, h => h.elim
  | [a], _, _, h => h.elim
  | a :: b :: t, x, y, h => by
    rcases h with ⟨rfl, rfl⟩ | h
    · exact ⟨[], t, rfl⟩
    · obtain ⟨s, t', e⟩ := adj_split h
      exact ⟨a :: s, t', by rw [e]; rfl⟩
theorem adj_at {s t : List α} {x y : α} : Adj (s ++ x :: y :: t) x y := by
  rw [adj_mid]
  exact .inr (.inl ⟨rfl, rfl⟩)
theorem adj_map {β : Type} (f : α → β) : ∀ {l : List α} {x y : β}, Adj (l.map f) x y → ∃ a b, Adj l a b ∧ x = f a ∧ y = f b
  | [], _, _, h => h.elim
  | [a], _, _, h => h.elim
  | a :: b :: t, x, y, h => by
    rcases h with ⟨rfl, rfl⟩ | h
    · exact ⟨a, b, .inl ⟨rfl, rfl⟩, rfl, rfl⟩
    · obtain ⟨a', b', h', e1, e2⟩ := adj_map f (l := b :: t) h
      exact ⟨a', b', .inr h', e1, e2⟩
theorem adj_rev {l : List α} {a b : α} (h : Adj l a b) : Adj l.reverse b a := by
  obtain ⟨s, t, rfl⟩ := adj_split h
  have : (s ++ a :: b :: t).reverse = t.reverse ++ b :: a :: s.reverse := by simp
  rw [this]
  exact adj_at
/-- y comes right behind x in the round word -/
def Nx : List α → α → α → Prop
  | [], _, _ => False
  | h :: t, x, y => Adj (h :: t ++ [h]) x y
theorem nx_rot : ∀ (A B : List α) (x y : α), Nx (A ++ B) x y ↔ Nx (B ++ A) x y
  | [], B, x, y => by simp
  | a :: A, [], x, y => by simp
  | a :: A, b :: B, x, y => by
    show Adj (a :: (A ++ b :: B) ++ [a]) x y ↔ Adj (b :: (B ++ a :: A) ++ [b]) x y
    have e1 : a :: (A ++ b :: B) ++ [a] = (a :: A) ++ b :: (B ++ [a]) := by simp
    have e2 : b :: (B ++ a :: A) ++ [b] = (b :: B) ++ a :: (A ++ [b]) := by simp
    rw [e1, e2, adj_mid (a :: A) b, adj_mid (b :: B) a, or_comm]
    rfl
theorem nx_mem {w : List α} {x y : α} (h : Nx w x y) : x ∈ w ∧ y ∈ w := by
  cases w with
  | nil => exact h.elim
  | cons a t =>
    have := adj_mem h
    simp at this ⊢
    exact ⟨by rcases this.1 with h | h | h <;> simp [h], by rcases this.2 with h | h | h <;> simp [h]⟩
theorem nx_map {β : Type} (f : α → β) {w : List α} {x y : β} (h : Nx (w.map f) x y) : ∃ a b, Nx w a b ∧ x = f a ∧ y = f b := by
  cases w with
  | nil => exact h.elim
  | cons a t =>
    have h : Adj ((a :: t ++ [a]).map f) x y := by
      have h : Adj (f a :: t.map f ++ [f a]) x y := h
      simpa using h
    exact adj_map f h
/-- the round word begun anywhere -/
theorem mem_rot {w : List α} {x : α} (h : x ∈ w) : ∃ A B, w = A ++ x :: B := by
  obtain ⟨A, B, e⟩ := List.append_of_mem h
  exact ⟨A, B, e⟩
/-- what comes behind the first -/
theorem nx_head {x y : α} {t : List α} (nd : (x :: t).Nodup) : Nx (x :: t) x y ↔ (t ++ [x]).head? = some y := by
  cases t with
  | nil =>
    show Adj [x, x] x y ↔ _
    rw [adj_two, adj_one]
    simp [eq_comm]
  | cons b r =>
    show Adj (x :: b :: (r ++ [x])) x y ↔ _
    rw [adj_two]
    constructor
    · rintro (⟨_, e⟩ | h)
      · simp [e]
      · exfalso
        have hx : x ∉ b :: r := (List.nodup_cons.mp nd).1
        obtain ⟨s, t, e⟩ := adj_split h
        have e : (b :: r) ++ [x] = s ++ x :: y :: t := e
        have h2 : (s ++ x :: y :: t) = (s ++ [x]) ++ (y :: t) := by simp
        rcases List.append_eq_append_iff.mp e with ⟨a', e1, e2⟩ | ⟨c', e1, e2⟩
        · have := congrArg List.length e2
          simp only [List.length_append, List.length_cons, List.length_nil] at this
          omega
        · cases c' with
          | nil => simp at e2
          | cons c c' =>
            have : c = x := by
              have := (List.cons.inj e2).1
              exact this.symm
            subst this
            exact hx (by rw [e1]; simp)
    · intro h
      simp at h
      exact .inl ⟨rfl, h.symm⟩
theorem nx_ex {w : List α} {x : α} (h : x ∈ w) : ∃ y, Nx w x y := by
  obtain ⟨A, B, rfl⟩ := mem_rot h
  cases e : B ++ A with
  | nil => exact ⟨x, (nx_rot _ _ _ _).mpr (by show Adj (x :: (B ++ A) ++ [x]) x x; rw [e]; exact .inl ⟨rfl, rfl⟩)⟩
  | cons c r => exact ⟨c, (nx_rot _ _ _ _).mpr (by show Adj (x :: (B ++ A) ++ [x]) x c; rw [e]; exact .inl ⟨rfl, rfl⟩)⟩
theorem nd_rot {A B : List α} (nd : (A ++ B).Nodup) : (B ++ A).Nodup := (List.perm_append_comm.nodup_iff).mp nd
theorem nx_rev {w : List α} {x y : α} (h : Nx w x y) : Nx w.reverse y x := by
  cases w with
  | nil => exact h.elim
  | cons a t =>
    have h := adj_rev (show Adj (a :: t ++ [a]) x y from h)
    have e : (a :: t ++ [a]).reverse = a :: t.reverse ++ [a] := by simp
    rw [e] at h
    have e2 : (a :: t).reverse = t.reverse ++ [a] := by simp
    rw [e2, nx_rot]
    exact h
theorem rev_nx {w : List α} {x y : α} (h : Nx w.reverse y x) : Nx w x y := by
  have := nx_rev h
  rwa [List.reverse_reverse] at this
end
end Wd
set_option Elab.async false
set_option linter.all false
set_option maxRecDepth 100000
set_option maxHeartbeats 0
namespace Wd
section
variable {α : Type}
/-- a round word that R leads round -/
structure Cy (R : α → α → Prop) (w : List α) : Prop where
  ne : w ≠ []
  nd : w.Nodup
  st : ∀ x y, Nx w x y → R x y
theorem Cy.rot {R : α → α → Prop} {A B : List α} (h : Cy R (A ++ B)) : Cy R (B ++ A) :=
  ⟨fun e => h.ne (by have := List.append_eq_nil_iff.mp e; rw [this.1, this.2]; rfl), nd_rot h.nd, fun x y n => h.st x y ((nx_rot _ _ _ _).mpr n)⟩
/-- cycles that hold each of u once -/
structure Dc (R : α → α → Prop) (u : List α) (Ws : List (List α)) : Prop where
  cy : ∀ w ∈ Ws, Cy R w
  pm : Ws.flatten.Perm u
end
/-! ### the walk from a gap -/
/-- where a hole goes on -/
def Rh (u : List L) : L → L → Prop := fun x y => Nx u (inv x) y
theorem nx_idx {u : List L} {k : Nat} {x y : L} (h1 : u[k]? = some x) (h2 : u[(k + 1) % u.length]? = some y) : Nx u x y := by
  obtain ⟨hk, e1⟩ := List.getElem?_eq_some_iff.mp h1
  have e : u = u.take k ++ x :: u.drop (k + 1) := by
    rw [← e1, List.getElem_cons_drop, List.take_append_drop]
  by_cases hl : k + 1 < u.length
  · rw [Nat.mod_eq_of_lt hl] at h2
    obtain ⟨hk2, e2⟩ := List.getElem?_eq_some_iff.mp h2
    have e3 : u.drop (k + 1) = y :: u.drop (k + 2) := by rw [List.drop_eq_getElem_cons hk2, e2]
    rw [e, e3, nx_rot]
    exact .inl ⟨rfl, rfl⟩
  · have hl : k + 1 = u.length := by omega
    rw [hl, Nat.mod_self] at h2
    have e3 : u.drop (k + 1) = [] := List.drop_eq_nil_of_le (by omega)
    rw [e, e3, nx_rot]
    show Adj (x :: (u.take k) ++ [x]) x y
    cases k with
    | zero =>
      rw [h1] at h2
      obtain rfl := Option.some.inj h2
      exact .inl ⟨rfl, rfl⟩
    | succ k =>
      cases u with
      | nil => simp at hk
      | cons a t =>
        have : a = y := by simpa using h2
        subst this
        exact .inl ⟨rfl, rfl⟩
theorem step_rh {u : List L} (S : Srf u) (g : Nat) : Rh u (letH u g) (letH u (stepH u g)) := by
  have h := stepH_lt S g
  refine nx_idx (k := stepH u g) ?_ (letH_get S _)
  rw [List.getElem?_eq_getElem h]
  exact congrArg some (List.getElem_idxOf h)
theorem get_nd {u : List L} (nd : u.Nodup) {i j : Nat} {x : L} (h1 : u[i]? = some x) (h2 : u[j]? = some x) : i = j := by
  obtain ⟨hi, e1⟩ := List.getElem?_eq_some_iff.mp h1
  obtain ⟨hj, e2⟩ := List.getElem?_eq_some_iff.mp h2
  have p := List.pairwise_iff_getElem.mp nd
  rcases Nat.lt_trichotomy i j with h | h | h
  · exact absurd (e1.trans e2.symm) (p i j hi hj h)
  · exact h
  · exact absurd (e2.trans e1.symm) (p j i hj hi h)
theorem letH_inj {u : List L} (S : Srf u) {g h : Nat} (hg : g < u.length) (hh : h < u.length) (e : letH u g = letH u h) : g = h := by
  have := get_nd S.nd (letH_get S g) (e ▸ letH_get S h)
  have e2 : ∀ g : Nat, g < u.length → (g + 1) % u.length = if g + 1 = u.length then 0 else g + 1 := fun g hg => by
    split
    · rename_i h
      rw [h, Nat.mod_self]
    · exact Nat.mod_eq_of_lt (by omega)
  rw [e2 g hg, e2 h hh] at this
  split at this <;> split at this <;> omega
theorem stepH_inj {u : List L} (S : Srf u) {g h : Nat} (hg : g < u.length) (hh : h < u.length) (e : stepH u g = stepH u h) : g = h := by
  refine letH_inj S hg hh ?_
  have a := List.getElem_idxOf (stepH_lt S g)
  have b := List.getElem_idxOf (stepH_lt S h)
  have : inv (letH u g) = inv (letH u h) := by
    rw [← a, ← b]
    congr 1
  rw [← inv_inv (letH u g), this, inv_inv]
/-- gaps that are led in a row -/
def Row (u : List L) (C : List Nat) (g : Nat) : Prop := ∀ a b, Adj (C ++ [g]) a b → b = stepH u a
theorem Row.on {u : List L} {C : List Nat} {g : Nat} (h : Row u C g) : Row u (C ++ [g]) (stepH u g) := by
  intro a b q
  rw [List.append_assoc] at q
  rcases (adj_mid C g [stepH u g] a b).mp q with q | q
  · exact h a b q
  · rcases q with ⟨rfl, rfl⟩ | q
    · rfl
    · exact q.elim
/-- a row that comes to a gap of its own has come round -/
theorem Row.round {u : List L} (S : Srf u) {C : List Nat} {g : Nat} (h : Row u C g) (nd : C.Nodup) (lt : ∀ c ∈ C, c < u.length) (hg : g ∈ C) : ∃ r, C = g :: r := by
  obtain ⟨A, B, rfl⟩ := mem_rot hg
  rcases List.eq_nil_or_concat A with rfl | ⟨A', p, e0⟩
  · exact ⟨B, rfl⟩
  · exfalso
    rw [List.concat_eq_append] at e0
    subst e0
    have e1 : g = stepH u p := h p g (by
      have : A' ++ [p] ++ g :: B ++ [g] = A' ++ p :: g :: (B ++ [g]) := by simp
      rw [this]; exact adj_at)
    obtain ⟨M, z, e⟩ : ∃ M z, g :: B = M ++ [z] := by
      rcases List.eq_nil_or_concat (g :: B) with h | ⟨M, z, h⟩
      · cases h
      · exact ⟨M, z, by rw [h, List.concat_eq_append]⟩
    have e2 : g = stepH u z := h z g (by
      have : A' ++ [p] ++ g :: B ++ [g] = (A' ++ [p] ++ M) ++ z :: g :: [] := by rw [e]; simp
      rw [this]; exact adj_at)
    have hz : z ∈ g :: B := by rw [e]; simp
    have hpz : p = z := stepH_inj S (lt p (by simp)) (lt z (by
      rw [List.mem_append]; exact .inr hz)) (e1.symm.trans e2)
    subst hpz
    have := List.nodup_append.mp nd
    exact this.2.2 p (by simp) p hz rfl
end Wd
set_option Elab.async false
set_option linter.all false
set_option maxRecDepth 100000
set_option maxHeartbeats 0
namespace Wd
def Pre (u : List L) (S : List Nat) : Prop := ∀ g ∈ S, ∃ g' ∈ S, stepH u g' = g
theorem wk_cyc {u : List L} (U : Srf u) {S0 : List Nat} (pre : Pre u S0) {g0 : Nat} (h0 : g0 ∉ S0) : ∀ (k : Nat) (C : List Nat) (g : Nat), k + (S0 ++ C).length = u.length + 1 → Sn u (S0 ++ C) → g < u.length → Row u C g → ((C = [] ∧ g = g0) ∨ ∃ r, C = g0 :: r) →
    ∃ C', wk u g (S0 ++ C) (C.map (letH u)) = (S0 ++ C', C'.map (letH u)) ∧ Sn u (S0 ++ C') ∧ (∃ r, C' = g0 :: r) ∧ Row u C' g0 := by
  intro k
  induction k with
  | zero =>
    intro C g hk hs _ _ _
    have := hs.le
    omega
  | succ k ih =>
    intro C g hk hs hg hr hh
    by_cases hm : g ∈ S0 ++ C
    · rw [wk_in hm]
      have nd := List.nodup_append.mp hs.nd
      have hC : ∃ r, C = g0 :: r := by
        rcases hh with ⟨rfl, rfl⟩ | h
        · exact absurd (by simpa using hm) h0
        · exact h
      have hgC : g ∈ C := by
        rcases List.mem_append.mp hm with h | h
        · exfalso
          obtain ⟨g', h1, h2⟩ := pre g h
          obtain ⟨M, z, e⟩ : ∃ M z, C = M ++ [z] := by
            obtain ⟨r, rfl⟩ := hC
            rcases List.eq_nil_or_concat (g0 :: r) with h | ⟨M, z, h⟩
            · cases h
            · exact ⟨M, z, by rw [h, List.concat_eq_append]⟩
          have e2 : g = stepH u z := hr z g (by
            have : C ++ [g] = M ++ z :: g :: [] := by rw [e]; simp
            rw [this]; exact adj_at)
          have hz : z ∈ C := by rw [e]; simp
          have := stepH_inj U (hs.lt g' (List.mem_append.mpr (.inl h1))) (hs.lt z (List.mem_append.mpr (.inr hz))) (h2.trans e2)
          exact nd.2.2 g' h1 z hz this
        · exact h
      obtain ⟨r, e⟩ := Row.round U hr nd.2.1 (fun c hc => hs.lt c (List.mem_append.mpr (.inr hc))) hgC
      obtain ⟨r', e'⟩ := hC
      have : g = g0 := by rw [e] at e'; exact (List.cons.inj e').1
      subst this
      exact ⟨C, rfl, hs, ⟨r, e⟩, hr⟩
    · have hs' := hs.snoc hg hm
      rw [wk_out hs hg hm]
      have e1 : S0 ++ C ++ [g] = S0 ++ (C ++ [g]) := List.append_assoc ..
      have e2 : C.map (letH u) ++ [letH u g] = (C ++ [g]).map (letH u) := by simp
      rw [e1] at hs' ⊢
      rw [e2]
      refine ih (C ++ [g]) (stepH u g) ?_ hs' (stepH_lt U g) hr.on (.inr ?_)
      · rw [← e1, List.length_append, List.length_singleton]
        omega
      · rcases hh with ⟨rfl, rfl⟩ | ⟨r, rfl⟩
        · exact ⟨[], rfl⟩
        · exact ⟨r ++ [g], rfl⟩
/-- a cycle of gaps -/
def Gc (u : List L) (C : List Nat) : Prop := ∃ g r, C = g :: r ∧ Row u C g
theorem Gc.st {u : List L} {C : List Nat} (h : Gc u C) {a b : Nat} (n : Nx C a b) : b = stepH u a := by
  obtain ⟨g, r, rfl, h⟩ := h
  exact h a b n
theorem Gc.pre {u : List L} {C : List Nat} (h : Gc u C) {g : Nat} (hg : g ∈ C) : ∃ g' ∈ C, stepH u g' = g := by
  obtain ⟨y, hy⟩ := nx_ex (w := C.reverse) (x := g) (by simpa using hg)
  have hy := rev_nx hy
  exact ⟨y, (nx_mem hy).1, (h.st hy).symm⟩
structure HI (u : List L) (i : Nat) (Cs : List (List Nat)) : Prop where
  s : (holS u i).1 = Cs.flatten
  w : (holS u i).2 = Cs.map (List.map (letH u))
  sn : Sn u Cs.flatten
  gc : ∀ C ∈ Cs, Gc u C
  al : ∀ g, g < i → g ∈ Cs.flatten
theorem hi_all {u : List L} (U : Srf u) : ∀ i, i ≤ u.length → ∃ Cs, HI u i Cs
  | 0, _ => ⟨[], rfl, rfl, Sn.nil u, fun _ h => absurd h (by simp), fun g h => absurd h (by omega)⟩
  | i + 1, hi => by
    obtain ⟨Cs, h⟩ := hi_all U i (by omega)
    by_cases hm : i ∈ (holS u i).1
    · refine ⟨Cs, by rw [hol_in hm]; exact h.s, by rw [hol_in hm]; exact h.w, h.sn, h.gc, fun g hg => ?_⟩
      by_cases e : g = i
      · subst e
        rw [← h.s]
        exact hm
      · exact h.al g (by omega)
    · rw [h.s] at hm
      have pre : Pre u Cs.flatten := fun g hg => by
        obtain ⟨C, hC, hg⟩ := List.mem_flatten.mp hg
        obtain ⟨g', h1, h2⟩ := (h.gc C hC).pre hg
        exact ⟨g', List.mem_flatten.mpr ⟨C, hC, h1⟩, h2⟩
      have hle := h.sn.le
      obtain ⟨C, e, hs, ⟨r, hr⟩, hrow⟩ := wk_cyc U pre hm (u.length + 1 - Cs.flatten.length) [] i (by rw [List.append_nil]; omega) (by rw [List.append_nil]; exact h.sn) (by omega) (fun a b q => q.elim) (.inl ⟨rfl, rfl⟩)
      rw [List.append_nil] at e
      have e : wk u i Cs.flatten [] = (Cs.flatten ++ C, C.map (letH u)) := e
      have ho : holS u (i + 1) = ((wk u i (holS u i).1 []).1, (holS u i).2 ++ [(wk u i (holS u i).1 []).2]) := hol_out (by rw [h.s]; exact hm)
      rw [h.s, e, h.w] at ho
      have ef : (Cs ++ [C]).flatten = Cs.flatten ++ C := by simp
      refine ⟨Cs ++ [C], by rw [ho, ef], by rw [ho]; simp, by rw [ef]; exact hs, fun D hD => ?_, fun g hg => ?_⟩
      · rcases List.mem_append.mp hD with hD | hD
        · exact h.gc D hD
        · rw [List.mem_singleton] at hD
          subst hD
          exact ⟨i, r, hr, hrow⟩
      · rw [ef, List.mem_append]
        by_cases e : g = i
        · subst e
          exact .inr (by rw [hr]; simp)
        · exact .inl (h.al g (by omega))
theorem pm_nd {α : Type} [DecidableEq α] {a b : List α} (na : a.Nodup) (nb : b.Nodup) (h : ∀ x, x ∈ a ↔ x ∈ b) : a.Perm b := by
  rw [List.perm_iff_count]
  intro x
  by_cases hx : x ∈ a
  · rw [na.count, nb.count, if_pos hx, if_pos ((h x).mp hx)]
  · rw [List.count_eq_zero.mpr hx, List.count_eq_zero.mpr (fun q => hx ((h x).mpr q))]
theorem nd_map {α β : Type} (f : α → β) : ∀ {l : List α}, l.Nodup → (∀ x ∈ l, ∀ y ∈ l, f x = f y → x = y) → (l.map f).Nodup
  | [], _, _ => List.nodup_nil
  | a :: t, nd, h => by
    rw [List.map_cons, List.nodup_cons]
    obtain ⟨h1, h2⟩ := List.nodup_cons.mp nd
    refine ⟨fun q => ?_, nd_map f h2 fun x hx y hy => h x (List.mem_cons_of_mem _ hx) y (List.mem_cons_of_mem _ hy)⟩
    obtain ⟨b, hb, e⟩ := List.mem_map.mp q
    have := h b (List.mem_cons_of_mem _ hb) a List.mem_cons_self e
    exact h1 (this ▸ hb)
/-- the holes are the cycles -/
theorem hol_dc {u : List L} (U : Srf u) : Dc (Rh u) u (hol u) := by
  obtain ⟨Cs, h⟩ := hi_all U u.length (Nat.le_refl _)
  have hw : hol u = Cs.map (List.map (letH u)) := h.w
  rw [hw]
  have inj : ∀ x ∈ Cs.flatten, ∀ y ∈ Cs.flatten, letH u x = letH u y → x = y := fun x hx y hy e => letH_inj U (h.sn.lt x hx) (h.sn.lt y hy) e
  refine ⟨fun w hw => ?_, ?_⟩
  · obtain ⟨C, hC, rfl⟩ := List.mem_map.mp hw
    have g := h.gc C hC
    have sub : ∀ x ∈ C, x ∈ Cs.flatten := fun x hx => List.mem_flatten.mpr ⟨C, hC, hx⟩
    refine ⟨?_, nd_map _ (List.Sublist.nodup (List.sublist_flatten_of_mem hC) h.sn.nd) fun x hx y hy => inj x (sub x hx) y (sub y hy), fun x y n => ?_⟩
    · obtain ⟨g0, r, rfl, _⟩ := g
      simp
    · obtain ⟨a, b, n', rfl, rfl⟩ := nx_map _ n
      obtain rfl := g.st n'
      exact step_rh U a
  · rw [← List.map_flatten]
    refine pm_nd (nd_map _ h.sn.nd inj) U.nd fun x => ?_
    constructor
    · intro hx
      obtain ⟨g, _, rfl⟩ := List.mem_map.mp hx
      exact letH_mem U g
    · intro hx
      obtain ⟨k, hk, e⟩ := List.mem_iff_getElem.mp hx
      have hp := U.pos
      refine List.mem_map.mpr ⟨(k + u.length - 1) % u.length, h.al _ (Nat.mod_lt _ hp), ?_⟩
      have e2 : ((k + u.length - 1) % u.length + 1) % u.length = k := by
        rw [Nat.mod_add_mod]
        have : k + u.length - 1 + 1 = k + u.length := by omega
        rw [this, Nat.add_mod_right]
        exact Nat.mod_eq_of_lt hk
      have := letH_get U ((k + u.length - 1) % u.length)
      rw [e2, List.getElem?_eq_getElem hk, e] at this
      exact (Option.some.inj this).symm
/-- hole words go round reduced -/
theorem hol_round {u : List L} (U : Srf u) {w : List L} (hw : w ∈ hol u) {x y : L} (n : Nx w x y) : y ≠ inv x := by
  have c := (hol_dc U).cy w hw
  have r : Nx u (inv x) y := c.st x y n
  intro e
  subst e
  have hm := (nx_mem r).1
  obtain ⟨A, B, rfl⟩ := mem_rot hm
  have r := (nx_rot _ _ _ _).mp r
  have nd : (inv x :: (B ++ A)).Nodup := nd_rot U.nd
  have h := (nx_head nd).mp r
  have hx : x ∈ B ++ A := by
    have := U.iv (inv x) hm
    rw [inv_inv] at this
    simp only [List.mem_append, List.mem_cons] at this ⊢
    rcases this with h | h | h
    · exact .inr h
    · exact absurd h.symm (inv_ne x)
    · exact .inl h
  cases e : B ++ A with
  | nil => rw [e] at hx; cases hx
  | cons c t =>
    rw [e] at h nd
    simp at h
    exact (List.nodup_cons.mp nd).1 (by rw [h]; simp)
end Wd
set_option Elab.async false
set_option linter.all false
set_option maxRecDepth 100000
set_option maxHeartbeats 0
/-! ### one pair of letters less -/
namespace Wd
section
variable {α : Type}
/-- what follows when x is taken out -/
theorem nx_out {A B : List α} {x a b : α} (nd : (A ++ x :: B).Nodup) : Nx (A ++ B) a b ↔ a ≠ x ∧ b ≠ x ∧ (Nx (A ++ x :: B) a b ∨ (Nx (A ++ x :: B) a x ∧ Nx (A ++ x :: B) x b)) := by
  rw [nx_rot A B, nx_rot A (x :: B), nx_rot A (x :: B), nx_rot A (x :: B)]
  have nd : (x :: (B ++ A)).Nodup := nd_rot nd
  show Nx (B ++ A) a b ↔ a ≠ x ∧ b ≠ x ∧ (Nx (x :: (B ++ A)) a b ∨ (Nx (x :: (B ++ A)) a x ∧ Nx (x :: (B ++ A)) x b))
  generalize B ++ A = v at nd ⊢
  obtain ⟨hx, ndv⟩ := List.nodup_cons.mp nd
  rw [nx_head nd]
  cases v with
  | nil =>
    show False ↔ _
    constructor
    · exact False.elim
    · rintro ⟨h1, h2, h | h⟩
      · have := (nx_mem h).1
        simp at this
        exact h1 this
      · simp at h
        exact h2 h.2.symm
  | cons c t =>
    have hc : c ≠ x := fun e => hx (by rw [e]; simp)
    have e1 : ∀ p q, Nx (x :: c :: t) p q ↔ (p = x ∧ q = c) ∨ Adj (c :: t ++ [x]) p q := fun p q => Iff.rfl
    obtain ⟨M, z, e⟩ : ∃ M z, c :: t = M ++ [z] := by
      rcases List.eq_nil_or_concat (c :: t) with h | ⟨M, z, h⟩
      · cases h
      · exact ⟨M, z, by rw [h, List.concat_eq_append]⟩
    have e2 : ∀ p q r, Adj (c :: t ++ [r]) p q ↔ Adj (c :: t) p q ∨ (p = z ∧ q = r) := fun p q r => by
      have : c :: t ++ [r] = M ++ z :: [r] := by rw [e]; simp
      rw [this, adj_mid, ← e, adj_two, adj_one]
      simp
    have nin : ∀ {p q}, Adj (c :: t) p q → p ≠ x ∧ q ≠ x := fun h => ⟨fun e => hx (e ▸ (adj_mem h).1), fun e => hx (e ▸ (adj_mem h).2)⟩
    have hz : z ≠ x := fun e' => hx (by rw [← e', e]; simp)
    show Adj (c :: t ++ [c]) a b ↔ _
    rw [e1, e1, e2, e2, e2]
    have hh : ((c :: t ++ [x]).head? = some b) ↔ b = c := by simp [eq_comm]
    rw [hh]
    constructor
    · rintro (h | ⟨rfl, rfl⟩)
      · exact ⟨(nin h).1, (nin h).2, .inl (.inr (.inl h))⟩
      · exact ⟨hz, hc, .inr ⟨.inr (.inr ⟨rfl, rfl⟩), rfl⟩⟩
    · rintro ⟨h1, h2, (⟨h, _⟩ | h | ⟨_, h⟩) | ⟨⟨h, _⟩ | h | ⟨h, _⟩, h'⟩⟩
      · exact absurd h h1
      · exact .inl h
      · exact absurd h h2
      · exact absurd h h1
      · exact absurd rfl (nin h).2
      · exact .inr ⟨h, h'⟩
end
end Wd
set_option Elab.async false
set_option linter.all false
set_option maxRecDepth 100000
set_option maxHeartbeats 0
namespace Wd
section
variable {α : Type}
theorem flat_pm : ∀ {Ws Vs : List (List α)}, Ws.Perm Vs → Ws.flatten.Perm Vs.flatten
  | _, _, .nil => .refl _
  | _, _, .cons x h => by simpa using (flat_pm h).append_left x
  | _, _, .swap x y l => by
    simp only [List.flatten_cons, ← List.append_assoc]
    exact List.Perm.append_right _ List.perm_append_comm
  | _, _, .trans h g => (flat_pm h).trans (flat_pm g)
theorem Dc.pms {R : α → α → Prop} {u : List α} {Ws Vs : List (List α)} (h : Dc R u Ws) (p : Vs.Perm Ws) : Dc R u Vs := ⟨fun w hw => h.cy w (p.mem_iff.mp hw), (flat_pm p).trans h.pm⟩
theorem nx_self {u : List α} (nd : u.Nodup) {p : α} (h : Nx u p p) : ∀ q ∈ u, q = p := by
  obtain ⟨A, B, rfl⟩ := mem_rot (nx_mem h).1
  have h := (nx_rot _ _ _ _).mp h
  have nd : (p :: (B ++ A)).Nodup := nd_rot nd
  have h := (nx_head nd).mp h
  cases e : B ++ A with
  | nil =>
    obtain ⟨rfl, rfl⟩ := List.append_eq_nil_iff.mp e
    intro q hq
    simpa using hq
  | cons c t =>
    rw [e] at h nd
    simp at h
    exact absurd (by rw [h]; simp) (List.nodup_cons.mp nd).1
/-- a way from a by P to b -/
def Pt (R : α → α → Prop) (a : α) (P : List α) (b : α) : Prop := ∀ c d, Adj (a :: P ++ [b]) c d → R c d
theorem Pt.nil {R : α → α → Prop} {a b : α} (h : Pt R a [] b) : R a b := h a b (.inl ⟨rfl, rfl⟩)
theorem Pt.ends {R : α → α → Prop} {a b : α} {P : List α} (h : Pt R a P b) (hP : P ≠ []) : ∃ p P' M z, P = p :: P' ∧ P = M ++ [z] ∧ R a p ∧ R z b ∧ ∀ c d, Adj P c d → R c d := by
  obtain ⟨p, P', e⟩ : ∃ p P', P = p :: P' := by
    cases P with
    | nil => exact absurd rfl hP
    | cons p P' => exact ⟨p, P', rfl⟩
  obtain ⟨M, z, e2⟩ : ∃ M z, P = M ++ [z] := by
    rcases List.eq_nil_or_concat P with h | ⟨M, z, h⟩
    · exact absurd h hP
    · exact ⟨M, z, by rw [h, List.concat_eq_append]⟩
  have e3 : a :: P ++ [b] = (a :: M) ++ z :: [b] := by rw [e2]; simp
  refine ⟨p, P', M, z, e, e2, h a p ?_, h z b ?_, fun c d q => h c d ?_⟩
  · rw [e]
    exact .inl ⟨rfl, rfl⟩
  · rw [e3]
    exact adj_at
  · rw [e3, adj_mid]
    refine .inl ?_
    have : a :: M ++ [z] = a :: P := by rw [e2]; rfl
    rw [this, e]
    rw [e] at q
    exact .inr q
theorem cy_mk {R : α → α → Prop} {V V' M : List α} {v z : α} (e1 : V = v :: V') (e2 : V = M ++ [z]) (nd : V.Nodup) (h1 : ∀ c d, Adj V c d → R c d) (h2 : R z v) : Cy R V := by
  refine ⟨by rw [e1]; simp, nd, fun x y n => ?_⟩
  have n : Adj (V ++ [v]) x y := by rw [e1] at n ⊢; exact n
  have : V ++ [v] = M ++ z :: [v] := by rw [e2]; simp
  rw [this, adj_mid, ← e2] at n
  rcases n with n | n
  · exact h1 x y n
  · rcases n with ⟨rfl, rfl⟩ | n
    · exact h2
    · exact n.elim
theorem adj_app {P Q M Q' : List α} {z q : α} (e1 : P = M ++ [z]) (e2 : Q = q :: Q') (c d : α) : Adj (P ++ Q) c d ↔ Adj P c d ∨ (c = z ∧ d = q) ∨ Adj Q c d := by
  have : P ++ Q = M ++ z :: Q := by rw [e1]; simp
  rw [this, adj_mid, ← e1, e2]
  rfl
end
end Wd
set_option Elab.async false
set_option linter.all false
set_option maxRecDepth 100000
set_option maxHeartbeats 0
namespace Wd
/-- u with the pair x, y taken out is v -/
structure Out (u : List L) (x y : L) (v : List L) : Prop where
  ex : ∃ A B C D, u = A ++ x :: B ∧ A ++ B = C ++ y :: D ∧ v = C ++ D
theorem Out.pm {u v : List L} {x y : L} (o : Out u x y v) : u.Perm (x :: y :: v) := by
  obtain ⟨A, B, C, D, rfl, e, rfl⟩ := o.ex
  refine List.perm_middle.trans (List.Perm.cons _ ?_)
  rw [e]
  exact List.perm_middle
theorem Out.nx {u v : List L} {x y : L} (o : Out u x y v) (nd : u.Nodup) (p q : L) (hp : p ≠ x) (hp' : p ≠ y) (hq : q ≠ x) (hq' : q ≠ y)
    (h : Nx u p q ∨ (Nx u p x ∧ Nx u x q) ∨ (Nx u p y ∧ Nx u y q) ∨ (Nx u p x ∧ Nx u x y ∧ Nx u y q) ∨ (Nx u p y ∧ Nx u y x ∧ Nx u x q)) : Nx v p q := by
  have hxy : y ≠ x := by
    have := o.pm.nodup_iff.mp nd
    intro e
    rw [e] at this
    simp at this
  obtain ⟨A, B, C, D, rfl, e, rfl⟩ := o.ex
  have nd2 : (C ++ y :: D).Nodup := by
    rw [← e]
    exact (List.nodup_cons.mp (List.perm_middle.nodup_iff.mp nd)).2
  have s1 : ∀ a b, a ≠ x → b ≠ x → (Nx (A ++ x :: B) a b ∨ (Nx (A ++ x :: B) a x ∧ Nx (A ++ x :: B) x b)) → Nx (C ++ y :: D) a b := fun a b h1 h2 h => by
    rw [← e]
    exact (nx_out nd).mpr ⟨h1, h2, h⟩
  refine (nx_out nd2).mpr ⟨hp', hq', ?_⟩
  rcases h with h | ⟨h1, h2⟩ | ⟨h1, h2⟩ | ⟨h1, h2, h3⟩ | ⟨h1, h2, h3⟩
  · exact .inl (s1 p q hp hq (.inl h))
  · exact .inl (s1 p q hp hq (.inr ⟨h1, h2⟩))
  · exact .inr ⟨s1 p y hp hxy (.inl h1), s1 y q hxy hq (.inl h2)⟩
  · exact .inr ⟨s1 p y hp hxy (.inr ⟨h1, h2⟩), s1 y q hxy hq (.inl h3)⟩
  · exact .inr ⟨s1 p y hp hxy (.inl h1), s1 y q hxy hq (.inr ⟨h2, h3⟩)⟩
theorem out_ex {u : List L} (nd : u.Nodup) {x y : L} (hx : x ∈ u) (hy : y ∈ u) (hn : y ≠ x) : ∃ v, Out u x y v := by
  obtain ⟨A, B, rfl⟩ := mem_rot hx
  have : y ∈ A ++ B := by
    simp only [List.mem_append, List.mem_cons] at hy ⊢
    rcases hy with h | h | h
    · exact .inl h
    · exact absurd h hn
    · exact .inr h
  obtain ⟨C, D, e⟩ := mem_rot this
  exact ⟨C ++ D, ⟨A, B, C, D, rfl, e, rfl⟩⟩
theorem inv_eqn {a x : L} (h : a ≠ x) : inv a ≠ inv x := fun e => h (by rw [← inv_inv a, e, inv_inv])
theorem inv_eqn' {a x : L} (h : a ≠ inv x) : inv a ≠ x := fun e => h (by rw [← e, inv_inv])
theorem Out.rh {u v : List L} {x : L} (o : Out u x (inv x) v) (nd : u.Nodup) {a b : L} (ha : a ≠ x) (ha' : a ≠ inv x) (hb : b ≠ x) (hb' : b ≠ inv x)
    (h : Rh u a b ∨ (Rh u a x ∧ Rh u (inv x) b) ∨ (Rh u a (inv x) ∧ Rh u x b) ∨ (Rh u a x ∧ Rh u (inv x) (inv x) ∧ Rh u x b) ∨ (Rh u a (inv x) ∧ Rh u x x ∧ Rh u (inv x) b)) : Rh v a b := by
  refine o.nx nd (inv a) b (inv_eqn' ha') (inv_eqn ha) hb hb' ?_
  unfold Rh at h
  simp only [inv_inv] at h
  exact h
theorem two_of {u : List L} (U : Srf u) {x : L} (h1 : Rh u x x) (h2 : Rh u (inv x) (inv x)) : u.length ≤ 2 := by
  unfold Rh at h1 h2
  rw [inv_inv] at h2
  have hx := (nx_mem h2).1
  obtain ⟨A, B, rfl⟩ := mem_rot hx
  have h1 := (nx_rot _ _ _ _).mp h1
  have h2 := (nx_rot _ _ _ _).mp h2
  have nd : (x :: (B ++ A)).Nodup := nd_rot U.nd
  have h2 := (nx_head nd).mp h2
  cases e : B ++ A with
  | nil =>
    obtain ⟨rfl, rfl⟩ := List.append_eq_nil_iff.mp e
    simp
  | cons c t =>
    rw [e] at h2
    simp at h2
    have h1 : Nx (x :: (B ++ A)) (inv x) x := h1
    rw [e, h2] at h1 nd
    have h1 := (nx_rot [x] (inv x :: t) _ _).mp h1
    have nd' : (inv x :: (t ++ [x])).Nodup := nd_rot (A := [x]) nd
    have h1 := (nx_head nd').mp h1
    cases t with
    | nil =>
      have := congrArg List.length e
      simp only [List.length_append, List.length_cons, List.length_nil] at this ⊢
      omega
    | cons d t =>
      simp at h1
      subst h1
      simp at nd
theorem dc_two {R : L → L → Prop} {u : List L} {Ws : List (List L)} (h : Dc R u Ws) {x y : L} (hx : x ∈ u) (hy : y ∈ u) (hn : y ≠ x) :
    (∃ (P Q : List L) (T : List (List L)), Ws.length = T.length + 1 ∧ Pt R x P y ∧ Pt R y Q x ∧ (x :: y :: (P ++ Q ++ T.flatten)).Perm u ∧ ∀ w ∈ T, Cy R w) ∨
    (∃ (P Q : List L) (T : List (List L)), Ws.length = T.length + 2 ∧ Pt R x P x ∧ Pt R y Q y ∧ (x :: y :: (P ++ Q ++ T.flatten)).Perm u ∧ ∀ w ∈ T, Cy R w) := by
  obtain ⟨w, hw, hxw⟩ := List.mem_flatten.mp (h.pm.mem_iff.mpr hx)
  obtain ⟨v, hv, hyv⟩ := List.mem_flatten.mp (h.pm.mem_iff.mpr hy)
  obtain ⟨S, S', e⟩ := List.append_of_mem hw
  have pw : (w :: (S ++ S')).Perm Ws := by rw [e]; exact List.perm_middle.symm
  have g := h.pms pw
  have cw := h.cy w hw
  obtain ⟨A, B, eA⟩ := mem_rot hxw
  have cw' : Cy R (x :: (B ++ A)) := by rw [eA] at cw; exact cw.rot
  have pAB : (A ++ x :: B).Perm (x :: (B ++ A)) := List.perm_append_comm
  have pu : (x :: (B ++ A) ++ (S ++ S').flatten).Perm u := by
    have := g.pm
    rw [List.flatten_cons, eA] at this
    exact (List.Perm.append_right _ pAB.symm).trans this
  by_cases hyw : y ∈ w
  · left
    have hy2 : y ∈ B ++ A := by
      have := (eA ▸ hyw : y ∈ A ++ x :: B)
      simp only [List.mem_append, List.mem_cons] at this ⊢
      rcases this with h | h | h
      · exact .inr h
      · exact absurd h hn
      · exact .inl h
    obtain ⟨P, Q, eP⟩ := mem_rot hy2
    rw [eP] at cw' pu
    have cs : ∀ c d, Adj (x :: (P ++ y :: Q) ++ [x]) c d → R c d := cw'.st
    have e2 : x :: (P ++ y :: Q) ++ [x] = (x :: P) ++ y :: (Q ++ [x]) := by simp
    rw [e2] at cs
    refine ⟨P, Q, S ++ S', ?_, fun c d q => cs c d ((adj_mid _ _ _ _ _).mpr (.inl q)), fun c d q => cs c d ((adj_mid _ _ _ _ _).mpr (.inr q)), ?_, fun z hz => g.cy z (List.mem_cons_of_mem _ hz)⟩
    · have := pw.length_eq
      simpa using this.symm
    · refine List.Perm.trans ?_ pu
      refine List.Perm.cons x ?_
      have : (P ++ y :: Q).Perm (y :: (P ++ Q)) := List.perm_middle
      exact (List.Perm.append_right _ this.symm)
  · right
    have hvm : v ∈ S ++ S' := by
      have := pw.mem_iff.mpr hv
      rcases List.mem_cons.mp this with h | h
      · exact absurd (h ▸ hyv) hyw
      · exact h
    obtain ⟨T, T', eT⟩ := List.append_of_mem hvm
    have pv : (v :: (T ++ T')).Perm (S ++ S') := by rw [eT]; exact List.perm_middle.symm
    have cv := h.cy v hv
    obtain ⟨C, D, eC⟩ := mem_rot hyv
    have cv' : Cy R (y :: (D ++ C)) := by rw [eC] at cv; exact cv.rot
    have pCD : (C ++ y :: D).Perm (y :: (D ++ C)) := List.perm_append_comm
    refine ⟨B ++ A, D ++ C, T ++ T', ?_, cw'.st, cv'.st, ?_, fun z hz => g.cy z (List.mem_cons_of_mem _ (pv.mem_iff.mp (List.mem_cons_of_mem _ hz)))⟩
    · have h1 := pw.length_eq
      have h2 := pv.length_eq
      simp only [List.length_cons] at h1 h2
      omega
    · refine List.Perm.trans ?_ pu
      refine List.Perm.cons x ?_
      have h3 : (y :: (D ++ C) ++ (T ++ T').flatten).Perm (S ++ S').flatten := by
        have := flat_pm pv
        rw [List.flatten_cons, eC] at this
        exact (List.Perm.append_right _ pCD.symm).trans this
      have h4 : (B ++ A ++ (y :: (D ++ C) ++ (T ++ T').flatten)).Perm (B ++ A ++ (S ++ S').flatten) := List.Perm.append_left _ h3
      refine List.Perm.trans ?_ h4
      have : B ++ A ++ (y :: (D ++ C) ++ (T ++ T').flatten) = (B ++ A) ++ y :: ((D ++ C) ++ (T ++ T').flatten) := by simp
      rw [this]
      have q := List.perm_middle (a := y) (l₁ := B ++ A) (l₂ := (D ++ C) ++ (T ++ T').flatten)
      refine List.Perm.trans ?_ q.symm
      simp
end Wd
set_option Elab.async false
set_option linter.all false
set_option maxRecDepth 100000
set_option maxHeartbeats 0
namespace Wd
theorem not_self {u : List L} (U : Srf u) {x : L} (hx : x ∈ u) : ¬ Nx u x x := fun h => inv_ne x (nx_self U.nd h (inv x) (U.iv x hx))
theorem par_step {u v : List L} (U : Srf u) (h4 : 2 < u.length) {x : L} (hx : x ∈ u) (o : Out u x (inv x) v) {Ws : List (List L)} (h : Dc (Rh u) u Ws) : ∃ Vs, Dc (Rh v) v Vs ∧ (Vs.length = Ws.length + 1 ∨ Vs.length + 1 = Ws.length) := by
  have hX := U.iv x hx
  have key : ∀ (P Q : List L) (T : List (List L)), (x :: inv x :: (P ++ Q ++ T.flatten)).Perm u → (∀ w ∈ T, Cy (Rh u) w) →
      (P ++ Q ++ T.flatten).Perm v ∧ (P ++ Q ++ T.flatten).Nodup ∧ (∀ y ∈ P ++ Q ++ T.flatten, y ≠ x ∧ y ≠ inv x) ∧ ∀ w ∈ T, Cy (Rh v) w := by
    intro P Q T pu ct
    have p2 : (x :: inv x :: (P ++ Q ++ T.flatten)).Perm (x :: inv x :: v) := pu.trans o.pm
    have p3 := List.Perm.cons_inv (List.Perm.cons_inv p2)
    have nd := pu.nodup_iff.mpr U.nd
    obtain ⟨n1, n2⟩ := List.nodup_cons.mp nd
    obtain ⟨n3, n4⟩ := List.nodup_cons.mp n2
    have ne : ∀ y ∈ P ++ Q ++ T.flatten, y ≠ x ∧ y ≠ inv x := fun y hy => ⟨fun e => n1 (List.mem_cons_of_mem _ (e ▸ hy)), fun e => n3 (e ▸ hy)⟩
    refine ⟨p3, n4, ne, fun w hw => ⟨(ct w hw).ne, (ct w hw).nd, fun a b q => ?_⟩⟩
    have sub : ∀ y ∈ w, y ∈ P ++ Q ++ T.flatten := fun y hy => List.mem_append.mpr (.inr (List.mem_flatten.mpr ⟨w, hw, hy⟩))
    have m := nx_mem q
    exact o.rh U.nd (ne a (sub a m.1)).1 (ne a (sub a m.1)).2 (ne b (sub b m.2)).1 (ne b (sub b m.2)).2 (.inl ((ct w hw).st a b q))
  have bad1 : ¬ Rh u x (inv x) := fun q => not_self U hX q
  have bad2 : ¬ Rh u (inv x) x := fun q => by
    unfold Rh at q
    rw [inv_inv] at q
    exact not_self U hx q
  rcases dc_two h hx hX (inv_ne x) with ⟨P, Q, T, hl, hP, hQ, pu, ct⟩ | ⟨P, Q, T, hl, hP, hQ, pu, ct⟩
  · obtain ⟨pv, nd, ne, ct'⟩ := key P Q T pu ct
    have P0 : P ≠ [] := fun e => by subst e; exact bad1 hP.nil
    have Q0 : Q ≠ [] := fun e => by subst e; exact bad2 hQ.nil
    obtain ⟨p, P', M, z, e1, e2, r1, r2, r3⟩ := hP.ends P0
    obtain ⟨q, Q', N, y, f1, f2, s1, s2, s3⟩ := hQ.ends Q0
    have mP : ∀ a ∈ P, a ≠ x ∧ a ≠ inv x := fun a ha => ne a (by simp [ha])
    have mQ : ∀ a ∈ Q, a ≠ x ∧ a ≠ inv x := fun a ha => ne a (by simp [ha])
    have hz : z ∈ P := by rw [e2]; simp
    have hp : p ∈ P := by rw [e1]; simp
    have hy : y ∈ Q := by rw [f2]; simp
    have hq : q ∈ Q := by rw [f1]; simp
    have nPQ := (List.nodup_append.mp nd).1
    have cP : Cy (Rh v) P := cy_mk e1 e2 (List.nodup_append.mp nPQ).1 (fun c d k => o.rh U.nd (mP c (adj_mem k).1).1 (mP c (adj_mem k).1).2 (mP d (adj_mem k).2).1 (mP d (adj_mem k).2).2 (.inl (r3 c d k)))
      (o.rh U.nd (mP z hz).1 (mP z hz).2 (mP p hp).1 (mP p hp).2 (.inr (.inr (.inl ⟨r2, r1⟩))))
    have cQ : Cy (Rh v) Q := cy_mk f1 f2 (List.nodup_append.mp nPQ).2.1 (fun c d k => o.rh U.nd (mQ c (adj_mem k).1).1 (mQ c (adj_mem k).1).2 (mQ d (adj_mem k).2).1 (mQ d (adj_mem k).2).2 (.inl (s3 c d k)))
      (o.rh U.nd (mQ y hy).1 (mQ y hy).2 (mQ q hq).1 (mQ q hq).2 (.inr (.inl ⟨s2, s1⟩)))
    refine ⟨P :: Q :: T, ⟨fun w hw => ?_, by simpa using pv⟩, .inl (by rw [hl]; simp)⟩
    rcases List.mem_cons.mp hw with rfl | hw
    · exact cP
    · rcases List.mem_cons.mp hw with rfl | hw
      · exact cQ
      · exact ct' w hw
  · obtain ⟨pv, nd, ne, ct'⟩ := key P Q T pu ct
    have mP : ∀ a ∈ P, a ≠ x ∧ a ≠ inv x := fun a ha => ne a (by simp [ha])
    have mQ : ∀ a ∈ Q, a ≠ x ∧ a ≠ inv x := fun a ha => ne a (by simp [ha])
    have nPQ := (List.nodup_append.mp nd).1
    have iP : ∀ c d, Adj P c d → Rh u c d → Rh v c d := fun c d k r => o.rh U.nd (mP c (adj_mem k).1).1 (mP c (adj_mem k).1).2 (mP d (adj_mem k).2).1 (mP d (adj_mem k).2).2 (.inl r)
    have iQ : ∀ c d, Adj Q c d → Rh u c d → Rh v c d := fun c d k r => o.rh U.nd (mQ c (adj_mem k).1).1 (mQ c (adj_mem k).1).2 (mQ d (adj_mem k).2).1 (mQ d (adj_mem k).2).2 (.inl r)
    have cy : Cy (Rh v) (P ++ Q) := by
      by_cases P0 : P = []
      · subst P0
        have Q0 : Q ≠ [] := fun e => by
          subst e
          have := two_of U hP.nil hQ.nil
          omega
        obtain ⟨q, Q', N, y, f1, f2, s1, s2, s3⟩ := hQ.ends Q0
        have hy : y ∈ Q := by rw [f2]; simp
        have hq : q ∈ Q := by rw [f1]; simp
        exact cy_mk f1 f2 (List.nodup_append.mp nPQ).2.1 (fun c d k => iQ c d k (s3 c d k)) (o.rh U.nd (mQ y hy).1 (mQ y hy).2 (mQ q hq).1 (mQ q hq).2 (.inr (.inr (.inr (.inr ⟨s2, hP.nil, s1⟩)))))
      · obtain ⟨p, P', M, z, e1, e2, r1, r2, r3⟩ := hP.ends P0
        have hz : z ∈ P := by rw [e2]; simp
        have hp : p ∈ P := by rw [e1]; simp
        by_cases Q0 : Q = []
        · subst Q0
          rw [List.append_nil]
          exact cy_mk e1 e2 (List.nodup_append.mp nPQ).1 (fun c d k => iP c d k (r3 c d k)) (o.rh U.nd (mP z hz).1 (mP z hz).2 (mP p hp).1 (mP p hp).2 (.inr (.inr (.inr (.inl ⟨r2, hQ.nil, r1⟩)))))
        · obtain ⟨q, Q', N, y, f1, f2, s1, s2, s3⟩ := hQ.ends Q0
          have hy : y ∈ Q := by rw [f2]; simp
          have hq : q ∈ Q := by rw [f1]; simp
          refine cy_mk (v := p) (V' := P' ++ Q) (M := P ++ N) (z := y) (by rw [e1]; rfl) (by rw [f2]; simp) nPQ (fun c d k => ?_) (o.rh U.nd (mQ y hy).1 (mQ y hy).2 (mP p hp).1 (mP p hp).2 (.inr (.inr (.inl ⟨s2, r1⟩))))
          rcases (adj_app e2 f1 c d).mp k with k | ⟨rfl, rfl⟩ | k
          · exact iP c d k (r3 c d k)
          · exact o.rh U.nd (mP _ hz).1 (mP _ hz).2 (mQ _ hq).1 (mQ _ hq).2 (.inr (.inl ⟨r2, s1⟩))
          · exact iQ c d k (s3 c d k)
    refine ⟨(P ++ Q) :: T, ⟨fun w hw => ?_, by simpa using pv⟩, .inr (by rw [hl]; simp)⟩
    rcases List.mem_cons.mp hw with rfl | hw
    · exact cy
    · exact ct' w hw
/-- a surface's letters and holes -/
theorem par : ∀ (n : Nat) (u : List L), u.length ≤ n → Srf u → ∀ Ws, Dc (Rh u) u Ws → ∃ k, u.length + 2 = 2 * Ws.length + 4 * k := by
  intro n
  induction n with
  | zero =>
    intro u hl U
    have := U.pos
    omega
  | succ n ih =>
    intro u hl U Ws h
    obtain ⟨x, hx⟩ := List.exists_mem_of_ne_nil u U.ne
    have hX := U.iv x hx
    by_cases h2 : u.length ≤ 2
    · have fin : ∀ (P Q : List L) (T : List (List L)), (x :: inv x :: (P ++ Q ++ T.flatten)).Perm u → P = [] ∧ Q = [] ∧ T.flatten = [] := fun P Q T p => by
        have := p.length_eq
        simp only [List.length_cons, List.length_append] at this
        exact ⟨List.eq_nil_of_length_eq_zero (by omega), List.eq_nil_of_length_eq_zero (by omega), List.eq_nil_of_length_eq_zero (by omega)⟩
      rcases dc_two h hx hX (inv_ne x) with ⟨P, Q, T, hl, hP, hQ, pu, ct⟩ | ⟨P, Q, T, hl, hP, hQ, pu, ct⟩
      · obtain ⟨rfl, _, _⟩ := fin P Q T pu
        exact absurd hP.nil (not_self U hX)
      · obtain ⟨rfl, rfl, e⟩ := fin P Q T pu
        have : T = [] := by
          cases T with
          | nil => rfl
          | cons w T =>
            rw [List.flatten_cons] at e
            exact absurd (List.append_eq_nil_iff.mp e).1 (ct w (by simp)).ne
        subst this
        have := pu.length_eq
        simp at this hl
        exact ⟨0, by omega⟩
    · obtain ⟨v, o⟩ := out_ex U.nd hx hX (inv_ne x)
      obtain ⟨Vs, g, c⟩ := par_step U (by omega) hx o h
      have pl := o.pm.length_eq
      simp only [List.length_cons] at pl
      have nd := o.pm.nodup_iff.mp U.nd
      obtain ⟨n1, n2⟩ := List.nodup_cons.mp nd
      obtain ⟨n3, n4⟩ := List.nodup_cons.mp n2
      have V : Srf v := by
        refine ⟨fun e => by subst e; simp at pl; omega, n4, fun y hy => ?_, by have := U.le; omega⟩
        have hu : y ∈ u := o.pm.mem_iff.mpr (by simp [hy])
        have := o.pm.mem_iff.mp (U.iv y hu)
        rcases List.mem_cons.mp this with e | this
        · exact absurd hy (by rw [show y = inv x by rw [← e, inv_inv]]; exact n3)
        · rcases List.mem_cons.mp this with e | this
          · have : y = x := by rw [← inv_inv y, e, inv_inv]
            exact absurd hy (by rw [this]; exact fun q => n1 (List.mem_cons_of_mem _ q))
          · exact this
      obtain ⟨k, hk⟩ := ih v (by omega) V Vs g
      rcases c with c | c
      · exact ⟨k + 1, by omega⟩
      · exact ⟨k, by omega⟩
end Wd
set_option Elab.async false
set_option linter.all false
set_option maxRecDepth 100000
set_option maxHeartbeats 0
namespace Wd
/-- other names by a list -/
def nm (N : List L) (x : L) : L := if x.val < 6 then N.getD x.val 0 else inv (N.getD (x.val - 6) 0)
end Wd
namespace L2
open PySem PySem.Spec PyProof.Rows Wd
section
variable {X : Cx}
end
end L2
namespace Kx
open PySem PySem.Spec PyProof.Rows L2 Wd
end Kx
set_option Elab.async false
set_option linter.all false
set_option maxRecDepth 100000
set_option maxHeartbeats 0
namespace Kx
open PySem PySem.Spec PyProof.Rows L2 Wd
/-! ### caps among plain things -/
def whV : V → Bool
  | .int _ => true
  | _ => false
/-- a thing, whether it is a whole number -/
inductive Wh (K : PySem.W.Frag) (H : Hp) : V → Prop
  | mk {x : V} {n : String} {b1 b2 : Bool} (ty : TyOf K H x (.type n)) (e1 : PySem.W.kitOne K (.type n) (.type "int") = some b1) (e2 : PySem.W.kitOne K (.type n) (.type "bool") = some b2) (h : whV x = (b1 && !b2)) : Wh K H x
theorem kw_ii {K : PySem.W.Frag} : PySem.W.kitOne K (.type "int") (.type "int") = some true := by unfold PySem.W.kitOne; rw [if_pos (by rfl)]
theorem kw_ib {K : PySem.W.Frag} : PySem.W.kitOne K (.type "int") (.type "bool") = some false := by kernel_rfl
theorem kw_bi {K : PySem.W.Frag} : PySem.W.kitOne K (.type "bool") (.type "int") = some true := by kernel_rfl
theorem kw_bb {K : PySem.W.Frag} : PySem.W.kitOne K (.type "bool") (.type "bool") = some true := by unfold PySem.W.kitOne; rw [if_pos (by rfl)]
theorem kw_ni {K : PySem.W.Frag} : PySem.W.kitOne K (.type "NoneType") (.type "int") = some false := by kernel_rfl
theorem kw_nb {K : PySem.W.Frag} : PySem.W.kitOne K (.type "NoneType") (.type "bool") = some false := by kernel_rfl
theorem kw_si {K : PySem.W.Frag} : PySem.W.kitOne K (.type "str") (.type "int") = some false := by kernel_rfl
theorem kw_sb {K : PySem.W.Frag} : PySem.W.kitOne K (.type "str") (.type "bool") = some false := by kernel_rfl
theorem kw_li {K : PySem.W.Frag} : PySem.W.kitOne K (.type "list") (.type "int") = some false := by kernel_rfl
theorem kw_lb {K : PySem.W.Frag} : PySem.W.kitOne K (.type "list") (.type "bool") = some false := by kernel_rfl
theorem kw_ti {K : PySem.W.Frag} : PySem.W.kitOne K (.type "tuple") (.type "int") = some false := by kernel_rfl
theorem kw_tb {K : PySem.W.Frag} : PySem.W.kitOne K (.type "tuple") (.type "bool") = some false := by kernel_rfl
theorem wh_dt {K : PySem.W.Frag} {H : Hp} {x : V} {d : PyData} (h : Dt H x d) : Wh K H x := by
  cases h with
  | non => exact .mk .non kw_ni kw_nb rfl
  | bl b => exact .mk (.bl b) kw_bi kw_bb rfl
  | int i => exact .mk (.int i) kw_ii kw_ib rfl
  | str z => exact .mk (.str z) kw_si kw_sb rfl
  | lst e q => exact .mk (.lst e) kw_li kw_lb rfl
  | tup e q => exact .mk (.tup e) kw_ti kw_tb rfl
theorem Wh.same {K : PySem.W.Frag} {H H' : Hp} {x : V} (s : Same H H') (h : Wh K H x) : Wh K H' x := by
  obtain ⟨ty, e1, e2, h⟩ := h
  exact .mk (ty.same s fun C => by intro z; cases z) e1 e2 h
def spWhole (K : PySem.W.Frag) : Sp := fun vs H Q _ => ∃ x, vs = [x] ∧ Wh K H x ∧ Q (.bl (whV x)) H
/-- a part that may be a cap -/
inductive Cp (K : PySem.W.Frag) (H : Hp) : V → Option (Int × Int) → Prop
  | cap {a : Addr} {i j : Int} (h : H a = some (.tup [.int i, .int j])) : Cp K H (.ref a) (some (i, j))
  | tup {a : Addr} {xs : List V} (h : H a = some (.tup xs)) (hx : ∀ y ∈ xs, Wh K H y) (hl : xs.length ≤ 400) (ne : ¬ (xs.length = 2 ∧ xs.all whV = true)) : Cp K H (.ref a) none
  | oth {x : V} {n : String} (ty : TyOf K H x (.type n)) (e : PySem.W.kitOne K (.type n) (.type "tuple") = some false) : Cp K H x none
theorem Cp.same {K : PySem.W.Frag} {H H' : Hp} {x : V} {c : Option (Int × Int)} (s : Same H H') (h : Cp K H x c) : Cp K H' x c := by
  cases h with
  | cap h => exact .cap (s _ _ h)
  | tup h hx hl ne => exact .tup (s _ _ h) (fun y hy => (hx y hy).same s) hl ne
  | oth ty e => exact .oth (ty.same s fun C => by intro z; cases z) e
/-- a tuple of plain things is a cap, or none -/
theorem cp_tup {K : PySem.W.Frag} {H : Hp} {a : Addr} {xs : List V} (h : H a = some (.tup xs)) (hx : ∀ y ∈ xs, Wh K H y) (hl : xs.length ≤ 400) : ∃ c, Cp K H (.ref a) c := by
  by_cases ne : xs.length = 2 ∧ xs.all whV = true
  · obtain ⟨n2, al⟩ := ne
    match xs, n2 with
    | [x, y], _ =>
      have al : (whV x && (whV y && true)) = true := al
      rw [Bool.and_true, Bool.and_eq_true] at al
      cases x with
      | int i =>
        cases y with
        | int j => exact ⟨_, .cap h⟩
        | _ => exact absurd al.2 (by simp [whV])
      | _ => exact absurd al.1 (by simp [whV])
  · exact ⟨_, .tup h hx hl ne⟩
def okCap (n : Nat) : Option (Int × Int) → Bool
  | some (i, j) => decide (0 ≤ i) && decide (i < n) && (decide (1 ≤ j) && decide (j ≤ 10))
  | none => false
def spIsCap (K : PySem.W.Frag) : Sp := fun vs H Q _ => ∃ (n : Nat) (x : V) (c : Option (Int × Int)), vs = [.int (n : Int), x] ∧ Cp K H x c ∧ ∀ H', Same H H' → Q (.bl (okCap n c)) H'
/-- a thing that may be caps -/
inductive Cs (K : PySem.W.Frag) (H : Hp) : V → Option (List (Option (Int × Int))) → Prop
  | tup {a : Addr} {xs : List V} {cs : List (Option (Int × Int))} (h : H a = some (.tup xs)) (hx : ∀ (i : Nat) (x : V), xs[i]? = some x → ∃ c, cs[i]? = some c ∧ Cp K H x c) (hl : xs.length ≤ 400) (hc : cs.length = xs.length) : Cs K H (.ref a) (some cs)
  | oth {x : V} {n : String} (ty : TyOf K H x (.type n)) (e : PySem.W.kitOne K (.type n) (.type "tuple") = some false) : Cs K H x none
theorem Cs.same {K : PySem.W.Frag} {H H' : Hp} {x : V} {c : Option (List (Option (Int × Int)))} (s : Same H H') (h : Cs K H x c) : Cs K H' x c := by
  cases h with
  | tup h hx hl hc => exact .tup (s _ _ h) (fun i x e => let ⟨c, h1, h2⟩ := hx i x e; ⟨c, h1, h2.same s⟩) hl hc
  | oth ty e => exact .oth (ty.same s fun C => by intro z; cases z) e
def fst (c : Option (Int × Int)) : Int := match c with | some (i, _) => i | none => 0
def ris (cs : List (Option (Int × Int))) : Bool := ((cs.map fst).zip (cs.map fst).tail).all fun p => decide (p.1 < p.2)
def capsB (n : Nat) : Option (List (Option (Int × Int))) → Bool
  | some cs => decide (cs.length ≤ 6) && cs.all (okCap n) && ris cs
  | none => false
def spIsCaps (K : PySem.W.Frag) : Sp := fun vs H Q _ => ∃ (u : List L) (x : V) (c : Option (List (Option (Int × Int)))), vs = [tx u, x] ∧ Srf u ∧ Cs K H x c ∧ ∀ H', Same H H' → Q (.bl (capsB (hol u).length c)) H'
theorem ok_cap {K : PySem.W.Frag} {H : Hp} {x : V} {c : Option (Int × Int)} {n : Nat} (h : Cp K H x c) (ok : okCap n c = true) : ∃ (a : Addr) (i j : Int), x = .ref a ∧ c = some (i, j) ∧ H a = some (.tup [.int i, .int j]) ∧ 0 ≤ i ∧ i < n ∧ 1 ≤ j ∧ j ≤ 10 := by
  cases h with
  | @cap a i j h =>
    have ok : (decide (0 ≤ i) && decide (i < n) && (decide (1 ≤ j) && decide (j ≤ 10))) = true := ok
    simp only [Bool.and_eq_true, decide_eq_true_iff] at ok
    exact ⟨a, i, j, rfl, rfl, h, ok.1.1, ok.1.2, ok.2.1, ok.2.2⟩
  | tup h hx hl ne => cases ok
  | oth ty e => cases ok
end Kx
namespace Kx
open PySem PySem.Spec PyProof.Rows L2 Wd
/-- caps as pairs -/
structure Cq (H : Hp) (a : Addr) (n : Nat) (ps : List (Nat × Nat)) : Prop where
  ex : ∃ xs, H a = some (.tup xs) ∧ xs.length = ps.length ∧ ∀ (i : Nat) (x : V), xs[i]? = some x → ∃ (b : Addr) (p : Nat × Nat), x = .ref b ∧ ps[i]? = some p ∧ H b = some (.tup [.int (p.1 : Int), .int (p.2 : Int)])
  le : ps.length ≤ 6
  ok : ∀ p ∈ ps, p.1 < n ∧ 1 ≤ p.2 ∧ p.2 ≤ 10
theorem Cq.same {H H' : Hp} {a : Addr} {n : Nat} {ps : List (Nat × Nat)} (s : Same H H') (h : Cq H a n ps) : Cq H' a n ps := by
  obtain ⟨⟨xs, h1, h2, h3⟩, h4, h5⟩ := h
  exact ⟨⟨xs, s _ _ h1, h2, fun i x e => let ⟨b, p, e1, e2, e3⟩ := h3 i x e; ⟨b, p, e1, e2, s _ _ e3⟩⟩, h4, h5⟩
/-- the words of caps -/
def capW (u : List L) (ps : List (Nat × Nat)) : List (List L) := ps.map fun p => rep p.2 ((hol u).getD p.1 [])
def spCapped : Sp := fun vs H Q _ => ∃ (u : List L) (a : Addr) (ps : List (Nat × Nat)), vs = [tx u, .ref a] ∧ Srf u ∧ Cq H a (hol u).length ps ∧ ∀ (r : Addr) (H' : Hp), H r = none → H' r = some (.tup ((capW u ps).map tx)) → Same H H' → Q (.ref r) H'
def btB (lo hi : Int) : V → Bool
  | .int i => decide (lo ≤ i) && decide (i ≤ hi)
  | _ => false
def spBtw (K : PySem.W.Frag) : Sp := fun vs H Q _ => ∃ (x : V) (lo hi : Int), vs = [x, .int lo, .int hi] ∧ Wh K H x ∧ Q (.bl (btB lo hi x)) H
def spLIsCaps (K : PySem.W.Frag) : Sp := fun vs H Q _ => ∃ (n : Nat) (x : V) (c : Option (List (Option (Int × Int)))), vs = [.int (n : Int), x] ∧ Cs K H x c ∧ ∀ H', Same H H' → Q (.bl (capsB n c)) H'
/-- caps looked at one after another -/
def seqB (n : Nat) : Int → List (Option (Int × Int)) → Bool
  | _, [] => true
  | _, none :: _ => false
  | last, some (i, j) :: r => decide (last + 1 ≤ i) && decide (i ≤ (n : Int) - 1) && (decide (1 ≤ j) && decide (j ≤ 10)) && seqB n i r
theorem seq_caps (n : Nat) : ∀ (cs : List (Option (Int × Int))) (last : Int), -1 ≤ last → seqB n last cs = (cs.all (okCap n) && ris cs && (match cs with | c :: _ => decide (last < fst c) || !okCap n c | [] => true))
  | [], last, h => rfl
  | none :: r, last, h => by
    show false = ((okCap n none && _) && _ && _)
    rfl
  | some (i, j) :: r, last, h => by
    show (decide (last + 1 ≤ i) && decide (i ≤ (n : Int) - 1) && (decide (1 ≤ j) && decide (j ≤ 10)) && seqB n i r) = ((okCap n (some (i, j)) && r.all (okCap n)) && ris (some (i, j) :: r) && (decide (last < i) || !okCap n (some (i, j))))
    by_cases ok : okCap n (some (i, j)) = true
    · have ok' : (decide (0 ≤ i) && decide (i < n) && (decide (1 ≤ j) && decide (j ≤ 10))) = true := ok
      simp only [Bool.and_eq_true, decide_eq_true_iff] at ok'
      rw [ok, seq_caps n r i (by omega), decide_eq_true (by omega : i ≤ (n : Int) - 1), decide_eq_true ok'.2.1, decide_eq_true ok'.2.2]
      have e1 : decide (last + 1 ≤ i) = decide (last < i) := by
        rw [Bool.eq_iff_iff, decide_eq_true_iff, decide_eq_true_iff]
        omega
      rw [e1]
      cases r with
      | nil =>
        show (decide (last < i) && true && (true && true) && true) = (true && true && true && (decide (last < i) || false))
        cases decide (last < i) <;> rfl
      | cons c r =>
        have e2 : ris (some (i, j) :: c :: r) = (decide (i < fst c) && ris (c :: r)) := rfl
        rw [e2]
        show (decide (last < i) && true && (true && true) && ((c :: r).all (okCap n) && ris (c :: r) && (decide (i < fst c) || !okCap n c))) = (true && (c :: r).all (okCap n) && (decide (i < fst c) && ris (c :: r)) && (decide (last < i) || false))
        have e3 : (c :: r).all (okCap n) = (okCap n c && r.all (okCap n)) := rfl
        rw [e3]
        cases decide (last < i) <;> cases okCap n c <;> cases decide (i < fst c) <;> cases ris (c :: r) <;> cases r.all (okCap n) <;> rfl
    · have ok0 : okCap n (some (i, j)) = false := by simpa using ok
      have ok' : ¬ (0 ≤ i ∧ i < n ∧ 1 ≤ j ∧ j ≤ 10) := fun q => ok (by
        show (decide (0 ≤ i) && decide (i < n) && (decide (1 ≤ j) && decide (j ≤ 10))) = true
        simp only [Bool.and_eq_true, decide_eq_true_iff]
        exact ⟨⟨q.1, q.2.1⟩, q.2.2⟩)
      rw [ok0]
      have : (decide (last + 1 ≤ i) && decide (i ≤ (n : Int) - 1) && (decide (1 ≤ j) && decide (j ≤ 10))) = false := by
        rw [Bool.eq_false_iff]
        intro q
        simp only [Bool.and_eq_true, decide_eq_true_iff] at q
        exact ok' ⟨by omega, by omega, q.2.1, q.2.2⟩
      rw [this]
      rfl
theorem seq_start (n : Nat) (cs : List (Option (Int × Int))) : seqB n (-1) cs = (cs.all (okCap n) && ris cs) := by
  rw [seq_caps n cs (-1) (by omega)]
  cases cs with
  | nil => rfl
  | cons c r =>
    show ((okCap n c && r.all (okCap n)) && ris (c :: r) && (decide (-1 < fst c) || !okCap n c)) = ((okCap n c && r.all (okCap n)) && ris (c :: r))
    cases ok : okCap n c with
    | false => rfl
    | true =>
      have : -1 < fst c := by
        match c, ok with
        | some (i, j), ok =>
          have ok' : (decide (0 ≤ i) && decide (i < n) && (decide (1 ≤ j) && decide (j ≤ 10))) = true := ok
          simp only [Bool.and_eq_true, decide_eq_true_iff] at ok'
          show -1 < i
          omega
      rw [decide_eq_true this]
      cases ris (c :: r) <;> cases r.all (okCap n) <;> rfl
end Kx
namespace Kx
open PySem PySem.Spec PyProof.Rows L2 Wd
def spLCaps : Sp := fun vs H Q _ => ∃ (d : Addr) (n : Nat), vs = [.ref d, .int (n : Int)] ∧ Fd H d ∧ n ≤ 13 ∧ ∀ (r : Addr) (H' : Hp) (ps : List (Nat × Nat)), H r = none → Cq H' r n ps → (ps.map (·.1)).Pairwise (· < ·) → Fd H' d → SameB d H H' → Q (.ref r) H'
end Kx
set_option Elab.async false
set_option linter.all false
set_option maxRecDepth 100000
set_option maxHeartbeats 0
namespace Kx
open PySem PySem.Spec PyProof.Rows L2 Wd
/-- small parts -/
structure Lf (d : PyData) : Prop where
  sh : d.showable = true
  nd : d.hasDict = false
  dp : d.depth ≤ 2
  lv : d.leavesShort 40 = true
  wt : d.weight ≤ 110
  nt : ∀ i, d = .int i → i.natAbs.log2 < 1920
theorem Lf.sm {d : PyData} (h : Lf d) : Sm d := ⟨h.sh, h.nd, by have := h.dp; omega, h.lv, by have := h.wt; omega, h.nt⟩
theorem lf_all {w : Nat} : ∀ {ds : List PyData}, (∀ d ∈ ds, Lf d ∧ d.weight ≤ w) → PyData.showableAll ds = true ∧ PyData.hasDictAll ds = false ∧ PyData.depthAll ds ≤ 2 ∧ PyData.leavesShortAll 40 ds = true ∧ PyData.weightAll ds ≤ ds.length * (w + 1)
  | [], _ => ⟨rfl, rfl, Nat.zero_le _, rfl, Nat.zero_le _⟩
  | d :: r, h => by
    obtain ⟨a, b, c, e, f⟩ := lf_all (ds := r) fun x hx => h x (List.mem_cons_of_mem _ hx)
    obtain ⟨S, hw⟩ := h d List.mem_cons_self
    refine ⟨?_, ?_, ?_, ?_, ?_⟩
    · show (PyData.showable d && PyData.showableAll r) = true
      rw [S.sh, a]; rfl
    · show (PyData.hasDict d || PyData.hasDictAll r) = false
      rw [S.nd, b]; rfl
    · show max (PyData.depth d) (PyData.depthAll r) ≤ 2
      have := S.dp
      omega
    · show (PyData.leavesShort 40 d && PyData.leavesShortAll 40 r) = true
      rw [S.lv, e]; rfl
    · show PyData.weight d + 1 + PyData.weightAll r ≤ (r.length + 1) * (w + 1)
      rw [Nat.succ_mul]
      omega
theorem sm_of {w : Nat} {ds : List PyData} (h : ∀ d ∈ ds, Lf d ∧ d.weight ≤ w) (hl : ds.length * (w + 1) ≤ 400) : Sm (.tuple ds) ∧ Sm (.list ds) := by
  obtain ⟨a, b, c, e, f⟩ := lf_all h
  exact ⟨⟨a, b, by show PyData.depthAll ds + 1 ≤ 4; omega, e, by show PyData.weightAll ds ≤ 400; omega, fun i e => by cases e⟩, ⟨a, b, by show PyData.depthAll ds + 1 ≤ 4; omega, e, by show PyData.weightAll ds ≤ 400; omega, fun i e => by cases e⟩⟩
theorem int_all : ∀ n : Fin 15, PyData.showable (.int ((n : Int) - 1)) = true ∧ (PyData.leavesShort 40 (.int ((n : Int) - 1)) = true ∧ PyData.weight (.int ((n : Int) - 1)) ≤ 4) ∧ ((n : Int) - 1).natAbs.log2 < 1920 := by decide +kernel
theorem lf_int {i : Int} (h0 : -1 ≤ i) (h1 : i ≤ 13) : Lf (.int i) ∧ PyData.weight (.int i) ≤ 4 := by
  obtain ⟨n, e⟩ := Int.eq_ofNat_of_zero_le (show 0 ≤ i + 1 by omega)
  have hn : n < 15 := by omega
  have q := int_all ⟨n, hn⟩
  have e2 : (((⟨n, hn⟩ : Fin 15) : Nat) : Int) - 1 = i := by show (n : Int) - 1 = i; omega
  rw [e2] at q
  exact ⟨⟨q.1, rfl, Nat.zero_le _, q.2.1.1, by have := q.2.1.2; omega, fun j e => by cases e; exact q.2.2⟩, q.2.1.2⟩
theorem lf_big : Lf (.int (10 ^ 30)) := ⟨by decide +kernel, rfl, Nat.zero_le _, by decide +kernel, by decide +kernel, fun j e => by cases e; decide +kernel⟩
theorem lf_bl (b : Bool) : Lf (.bool b) := ⟨rfl, rfl, Nat.zero_le _, rfl, Nat.zero_le _, fun i e => by cases e⟩
theorem lf_non : Lf .none := ⟨rfl, rfl, Nat.zero_le _, rfl, Nat.zero_le _, fun i e => by cases e⟩
theorem lf_str {x : Str} (h : x.cps.size ≤ 110) (h2 : (x.cps.toList.all fun c => decide (c < 16 ^ 8)) = true) : Lf (.str x) := ⟨rfl, rfl, Nat.zero_le _, h2, h, fun i e => by cases e⟩
def Lfs (H : Hp) (xs : List V) : Prop := ∀ x ∈ xs, ∃ d, Dt H x d ∧ Lf d
theorem Lfs.nil {H : Hp} : Lfs H [] := fun x h => by cases h
theorem Lfs.cons {H : Hp} {x : V} {r : List V} {d : PyData} (h : Dt H x d) (S : Lf d) (q : Lfs H r) : Lfs H (x :: r) := fun y hy => by
  rcases List.mem_cons.mp hy with rfl | hy
  · exact ⟨d, h, S⟩
  · exact q y hy
theorem Lfs.dts {H : Hp} : ∀ {xs : List V}, Lfs H xs → ∃ ds, Dts H xs ds ∧ (∀ d ∈ ds, Lf d) ∧ ds.length = xs.length
  | [], _ => ⟨[], .nil, fun d h => (by cases h), rfl⟩
  | x :: r, h => by
    obtain ⟨d, hd, S⟩ := h x List.mem_cons_self
    obtain ⟨ds, h1, h2, h3⟩ := Lfs.dts (xs := r) fun y hy => h y (List.mem_cons_of_mem _ hy)
    refine ⟨d :: ds, .cons hd h1, fun e he => ?_, by rw [List.length_cons, List.length_cons, h3]⟩
    rcases List.mem_cons.mp he with rfl | he
    · exact S
    · exact h2 e he
theorem Lfs.prts {H : Hp} {xs : List V} (h : Lfs H xs) : Prts H xs := fun x hx => let ⟨d, a, b⟩ := h x hx; ⟨d, a, b.sm⟩
/-- an odd part -/
def OddC (H : Hp) (x : V) : Prop := ∃ d, Dt H x d ∧ Sm d ∧ ∃ d', Bn H x d'
theorem oddc_one {H : Hp} {x : V} {d : PyData} (h : Dt H x d) (S : Lf d) (nr : ∀ a, x ≠ .ref a) : OddC H x := ⟨d, h, S.sm, d, .one h S.sm nr⟩
theorem oddc_tup {H : Hp} {a : Addr} {xs : List V} (h : H a = some (.tup xs)) (p : Lfs H xs) (hl : xs.length ≤ 3) : OddC H (.ref a) := by
  obtain ⟨ds, h1, h2, h3⟩ := p.dts
  exact ⟨_, .tup h h1, (sm_of (w := 110) (fun d hd => ⟨h2 d hd, (h2 d hd).wt⟩) (by omega)).1, bn_tup h p.prts (by omega)⟩
theorem oddc_lst {H : Hp} {a : Addr} {xs : List V} (h : H a = some (.lst xs)) (p : Lfs H xs) (hl : xs.length ≤ 3) : OddC H (.ref a) := by
  obtain ⟨ds, h1, h2, h3⟩ := p.dts
  exact ⟨_, .lst h h1, (sm_of (w := 110) (fun d hd => ⟨h2 d hd, (h2 d hd).wt⟩) (by omega)).2, bn_lst h p.prts (by omega)⟩
theorem BnC.mono {H H' : Hp} {x : V} {d : PyData} (ok : ∀ b xs, H b = some (.lst xs) → H' b = some (.lst xs)) (ok2 : ∀ b xs, H b = some (.tup xs) → H' b = some (.tup xs)) (h : Bn H x d) : Bn H' x d := by
  cases h with
  | one h S nr => exact .one (h.mono ok ok2) S nr
  | tup h p q S hl hd => exact .tup (ok2 _ _ h) (fun x hx => let ⟨d, a, b⟩ := p x hx; ⟨d, a.mono ok ok2, b⟩) (q.mono ok ok2) S hl hd
  | lst h q S hl hd => exact .lst (ok _ _ h) (q.mono ok ok2) S hl hd
theorem OddC.mono {H H' : Hp} {x : V} (ok : ∀ b xs, H b = some (.lst xs) → H' b = some (.lst xs)) (ok2 : ∀ b xs, H b = some (.tup xs) → H' b = some (.tup xs)) (h : OddC H x) : OddC H' x := by
  obtain ⟨d, a, b, d', e⟩ := h
  exact ⟨d, a.mono ok ok2, b, d', BnC.mono ok ok2 e⟩
/-- a thing shown may be caps -/
theorem dts_mem {H : Hp} : ∀ {xs : List V} {ds : List PyData}, Dts H xs ds → ∀ y ∈ xs, ∃ d, Dt H y d
  | _, _, .nil, y, h => by cases h
  | _, _, .cons q qs, y, h => by
    rcases List.mem_cons.mp h with rfl | h
    · exact ⟨_, q⟩
    · exact dts_mem qs y h
theorem dts_len {H : Hp} : ∀ {xs : List V} {ds : List PyData}, Dts H xs ds → xs.length = ds.length
  | _, _, .nil => rfl
  | _, _, .cons q qs => by rw [List.length_cons, List.length_cons, dts_len qs]
theorem weightAll_len : ∀ ds : List PyData, ds.length ≤ PyData.weightAll ds
  | [] => Nat.le_refl _
  | d :: r => by
    show r.length + 1 ≤ PyData.weight d + 1 + PyData.weightAll r
    have := weightAll_len r
    omega
theorem cp_dt {K : PySem.W.Frag} {H : Hp} {x : V} {d : PyData} (h : Dt H x d) (S : Sm d) : ∃ c, Cp K H x c := by
  cases h with
  | non => exact ⟨_, .oth .non kitT_non⟩
  | bl b => exact ⟨_, .oth (.bl b) kitT_bool⟩
  | int i => exact ⟨_, .oth (.int i) kitT_int⟩
  | str z => exact ⟨_, .oth (.str z) kitT_str⟩
  | lst e q => exact ⟨_, .oth (.lst e) kitT_list⟩
  | @tup a xs ds e q =>
    refine cp_tup e (fun y hy => ?_) ?_
    · obtain ⟨d, hd⟩ := dts_mem q y hy
      exact wh_dt hd
    · rw [dts_len q]
      have h1 := weightAll_len ds
      have h2 : PyData.weightAll ds ≤ 400 := S.wt
      omega
theorem cps_of {K : PySem.W.Frag} {H : Hp} : ∀ {xs : List V}, (∀ x ∈ xs, ∃ c, Cp K H x c) → ∃ cs : List (Option (Int × Int)), cs.length = xs.length ∧ ∀ (i : Nat) (x : V), xs[i]? = some x → ∃ c, cs[i]? = some c ∧ Cp K H x c
  | [], _ => ⟨[], rfl, fun i x h => by simp at h⟩
  | x :: r, h => by
    obtain ⟨c, hc⟩ := h x List.mem_cons_self
    obtain ⟨cs, h1, h2⟩ := cps_of (xs := r) fun y hy => h y (List.mem_cons_of_mem _ hy)
    refine ⟨c :: cs, by rw [List.length_cons, List.length_cons, h1], fun i y hy => ?_⟩
    cases i with
    | zero =>
      rw [List.getElem?_cons_zero] at hy ⊢
      cases hy
      exact ⟨c, rfl, hc⟩
    | succ i =>
      rw [List.getElem?_cons_succ] at hy ⊢
      exact h2 i y hy
theorem Bn.cs {K : PySem.W.Frag} {H : Hp} {x : V} {d : PyData} (h : Bn H x d) : ∃ c, Cs K H x c := by
  cases h with
  | one h S nr =>
    cases h with
    | non => exact ⟨_, .oth .non kitT_non⟩
    | bl b => exact ⟨_, .oth (.bl b) kitT_bool⟩
    | int i => exact ⟨_, .oth (.int i) kitT_int⟩
    | str z => exact ⟨_, .oth (.str z) kitT_str⟩
    | lst e q => exact absurd rfl (nr _)
    | tup e q => exact absurd rfl (nr _)
  | @tup a xs ds h p q S hl hd =>
    obtain ⟨cs, h1, h2⟩ := cps_of (K := K) (H := H) (xs := xs) fun x hx => let ⟨d, a, b⟩ := p x hx; cp_dt a b
    exact ⟨_, .tup h h2 (by omega) h1⟩
  | lst h q S hl hd => exact ⟨_, .oth (.lst h) kitT_list⟩
theorem Cq.sb {H H' : Hp} {a d : Addr} {n : Nat} {ps : List (Nat × Nat)} (F : Fd H d) (s : SameB d H H') (h : Cq H a n ps) : Cq H' a n ps := by
  obtain ⟨⟨xs, h1, h2, h3⟩, h4, h5⟩ := h
  exact ⟨⟨xs, s _ _ (F.neT h1) h1, h2, fun i x e => let ⟨b, p, e1, e2, e3⟩ := h3 i x e; ⟨b, p, e1, e2, s _ _ (F.neT e3) e3⟩⟩, h4, h5⟩
/-- the parts of caps -/
theorem Cq.parts {H : Hp} {a : Addr} {n : Nat} {ps : List (Nat × Nat)} (hn : n ≤ 13) (h : Cq H a n ps) : ∃ xs, H a = some (.tup xs) ∧ xs.length = ps.length ∧ (∀ x ∈ xs, ∃ d, Dt H x d ∧ Lf d ∧ d.weight ≤ 10) := by
  obtain ⟨⟨xs, h1, h2, h3⟩, h4, h5⟩ := h
  refine ⟨xs, h1, h2, fun x hx => ?_⟩
  obtain ⟨i, hi⟩ := List.getElem?_of_mem hx
  obtain ⟨b, p, rfl, e2, e3⟩ := h3 i x hi
  obtain ⟨p1, p2, p3⟩ := h5 p (List.mem_of_getElem? e2)
  obtain ⟨L1, w1⟩ := lf_int (i := (p.1 : Int)) (by omega) (by omega)
  obtain ⟨L2, w2⟩ := lf_int (i := (p.2 : Int)) (by omega) (by omega)
  have al : ∀ d ∈ [PyData.int (p.1 : Int), PyData.int (p.2 : Int)], Lf d ∧ d.weight ≤ 4 := fun d hd => by
    rcases List.mem_cons.mp hd with rfl | hd
    · exact ⟨L1, w1⟩
    · rw [List.mem_singleton] at hd
      subst hd
      exact ⟨L2, w2⟩
  have S := (sm_of (w := 4) al (by show 2 * 5 ≤ 400; decide)).1
  have hw : PyData.weightAll [PyData.int (p.1 : Int), PyData.int (p.2 : Int)] ≤ 2 * 5 := (lf_all al).2.2.2.2
  exact ⟨_, .tup e3 (.cons (.int _) (.cons (.int _) .nil)), ⟨S.sh, S.nd, by show max 0 (max 0 0) + 1 ≤ 2; decide, S.lv, by show PyData.weightAll _ ≤ 110; omega, fun i e => by cases e⟩, hw⟩
/-- caps are small -/
theorem caps_sm {H : Hp} {a : Addr} {xs : List V} (h : H a = some (.tup xs)) (hl : xs.length ≤ 6) (p : ∀ x ∈ xs, ∃ d, Dt H x d ∧ Lf d ∧ d.weight ≤ 10) : ∃ d, Dt H (.ref a) d ∧ Sm d := by
  have : ∀ {xs : List V}, (∀ x ∈ xs, ∃ d, Dt H x d ∧ Lf d ∧ d.weight ≤ 10) → ∃ ds, Dts H xs ds ∧ (∀ d ∈ ds, Lf d ∧ d.weight ≤ 10) ∧ ds.length = xs.length := by
    intro xs
    induction xs with
    | nil => exact fun _ => ⟨[], .nil, fun d h => (by cases h), rfl⟩
    | cons x r ih =>
      intro h
      obtain ⟨d, hd, S⟩ := h x List.mem_cons_self
      obtain ⟨ds, h1, h2, h3⟩ := ih fun y hy => h y (List.mem_cons_of_mem _ hy)
      refine ⟨d :: ds, .cons hd h1, fun e he => ?_, by rw [List.length_cons, List.length_cons, h3]⟩
      rcases List.mem_cons.mp he with rfl | he
      · exact S
      · exact h2 e he
  obtain ⟨ds, h1, h2, h3⟩ := this p
  exact ⟨_, .tup h h1, (sm_of (w := 10) h2 (by omega)).1⟩
def spBentC : Sp := fun vs H Q _ => ∃ (d p : Addr) (n : Nat) (ps : List (Nat × Nat)), vs = [.ref d, .int (n : Int), .ref p] ∧ Fd H d ∧ n ≤ 13 ∧ Cq H p n ps ∧ ∀ (x : V) (dd : PyData) (H' : Hp), Bn H' x dd → Fd H' d → SameB d H H' → Q x H'
end Kx
set_option Elab.async false
set_option linter.all false
set_option maxRecDepth 100000
set_option maxHeartbeats 0
namespace Kx
open PySem PySem.Spec PyProof.Rows L2 Wd
def top (i : Nat) : Stmt := PySem.Challenge.pw_ringwords_k76_caps.main.body.getD i (.Pass ⟨0, 0, 0, 0⟩)
end Kx
set_option Elab.async false
set_option linter.all false
set_option maxRecDepth 100000
set_option maxHeartbeats 0
namespace Kx
open PySem PySem.Spec PyProof.Rows L2 Wd
section
variable {P : Program} {w : World} {K : PySem.W.Frag} {mg : Str → Option Value} {base : Heap} {aB : Addr}
abbrev s_draw : Stmt := top 28
theorem sc_draw : FnScope ["_law_feed_here", "_law_many", "_law_cell", "_law_mixed", "_law_found"] ["_law_feed_here", "_law_many"] (defScope s_draw) := ⟨rfl, rfl, rfl, by decide +kernel, rfl, by decide +kernel, by decide +kernel⟩
theorem c_draw (D : Df K mg "_law_draw" s_draw) (T : Bt K w mg aB) : Fnc P w K mg base "_law_draw" ["_law_feed_here", "_law_many"] 1 spDraw := by
  have sc := sc_draw
  refine D.ok sc (fun _ _ _ _ _ _ us hl => match us, hl with | [_, _], _ => rfl) (fun vs H Q E h => ?_) (fun f cdv A outer s H vs Q E hr h => ?_)
  · obtain ⟨d, m, rfl, _⟩ := h
    rfl
  · obtain ⟨d, m, rfl, F, m0, m1, k⟩ := h
    have hu := hu_of hr
    refine ⟨_, (@pss_cons _ _ _ _ _ (@ps_dput _ _ _ _ _ _ _ _ _ hu (pv 0) pe_str (@pe_op _ _ _ _ _ _ _ _ op_add (@pe_dget _ _ _ _ _ _ hu (pv 0) pe_str (fun _ _ => rfl)) pe_int) rfl) (@pss_cons _ _ _ _ _ (@ps_if _ _ _ _ _ _ _ _ (@pt_cmpR _ _ _ _ _ _ _ _ op_eq (@pe_dget _ _ _ _ _ _ hu (pv 0) pe_str (fun _ _ => rfl)) pe_int (nomark _)) (@pss_cons _ _ _ _ _ (@ps_set _ _ (2) _ _ _ _ sc.nd rfl (Or.inl rfl) (@pe_ix _ _ _ _ _ _ _ ix_list (@pe_dget _ _ _ _ _ _ hu (pv 0) pe_str (fun _ _ => rfl)) (@pe_op _ _ _ _ _ _ _ _ op_mod (@pe_dget _ _ _ _ _ _ hu (pv 0) pe_str (fun _ _ => rfl)) (@pe_callB _ _ _ _ _ _ _ _ _ call_len_seq (by rfl) T.len PySem.boot_len (@pa_cons _ _ _ _ _ (@pe_dget _ _ _ _ _ _ hu (pv 0) pe_str (fun _ _ => rfl)) pa_nil (by rfl)) (by decide) (by decide) (by rfl) (by rfl))) (fun _ _ => rfl)) (by rfl) (by first | exact .inl rfl | exact .inr rfl | assumption)) (@pss_cons _ _ _ _ _ (@ps_dput _ _ _ _ _ _ _ _ _ hu (pv 0) pe_str (@pe_op _ _ _ _ _ _ _ _ op_add (@pe_dget _ _ _ _ _ _ hu (pv 0) pe_str (fun _ _ => rfl)) pe_int) rfl) (@pss_cons _ _ _ _ _ (@ps_if _ _ _ _ _ _ _ _ (@pt_cmpR _ _ _ _ _ _ _ _ op_lt (pv 2) (@pe_op _ _ _ _ _ _ _ _ op_pow pe_int pe_int) (nomark _)) (@pss_cons _ _ _ _ _ (@ps_set _ _ (3) _ _ _ _ sc.nd rfl (Or.inl rfl) (@pe_op _ _ _ _ _ _ _ _ op_mod (@pe_op _ _ _ _ _ _ _ _ op_mul (@pe_op _ _ _ _ _ _ _ _ op_add (@pe_op _ _ _ _ _ _ _ _ op_mod (pv 2) pe_int) (@pe_op _ _ _ _ _ _ _ _ op_mul pe_int (@pe_dget _ _ _ _ _ _ hu (pv 0) pe_str (fun _ _ => rfl)))) pe_int) pe_int) (by rfl) (by first | exact .inl rfl | exact .inr rfl | assumption)) (@pss_cons _ _ _ _ _ (@ps_set _ _ (3) _ _ _ _ sc.nd rfl (Or.inl rfl) (@pe_op _ _ _ _ _ _ _ _ op_mod (@pe_op _ _ _ _ _ _ _ _ op_mul (@pe_op _ _ _ _ _ _ _ _ op_add (@pe_op _ _ _ _ _ _ _ _ op_fdiv (pv 3) pe_int) (@pe_op _ _ _ _ _ _ _ _ op_mul pe_int (@pe_dget _ _ _ _ _ _ hu (pv 0) pe_str (fun _ _ => rfl)))) pe_int) pe_int) (by rfl) (by first | exact .inl rfl | exact .inr rfl | assumption)) (@pss_one _ _ _ (@ps_ret _ _ _ _ (@pe_op _ _ _ _ _ _ _ _ op_mod (@pe_op _ _ _ _ _ _ _ _ op_fdiv (pv 3) pe_int) (pv 1)))))) pss_nil) (@pss_one _ _ _ (@ps_dput _ _ _ _ _ _ _ _ _ hu (pv 0) pe_str (pv 2) rfl))))) pss_nil) (@pss_cons _ _ _ _ _ (@ps_set _ _ (4) _ _ _ _ sc.nd rfl (Or.inl rfl) (@pe_op _ _ _ _ _ _ _ _ op_mod (@pe_dget _ _ _ _ _ _ hu (pv 0) pe_str (fun _ _ => rfl)) (pv 1)) (by rfl) (by first | exact .inl rfl | exact .inr rfl | assumption)) (@pss_cons _ _ _ _ _ (@ps_dput _ _ _ _ _ _ _ _ _ hu (pv 0) pe_str (@pe_op _ _ _ _ _ _ _ _ op_fdiv (@pe_dget _ _ _ _ _ _ hu (pv 0) pe_str (fun _ _ => rfl)) (pv 1)) rfl) (@pss_one _ _ _ (@ps_ret _ _ _ _ (pv 4))))))), ?_⟩
    obtain ⟨c, i, l, t, ns, hd, hc, hne, h64⟩ := F.ex
    have dc : c ≠ d := ne_of hc hd (by intro z; cases z)
    have fin : ∀ (r i' l' t' : Int), 0 ≤ r → r < m → Q (.int r) (upd H d (.dK (fkv c i' l' t'))) := fun r i' l' t' h0 h1 =>
      k r _ h0 h1 ⟨c, i', l', t', ns, upd_same, by rw [upd_ne dc]; exact hc, hne, h64⟩ SameB.upd
    have c1 : ∀ o, (upd H d o) c = some (.lst (ns.map V.int)) := fun o => by rw [upd_ne dc]; exact hc
    have hl0 : (0 : Int) < ((ns.map V.int).length : Int) := by
      rw [List.length_map]
      have := List.length_pos_iff.mpr hne
      omega
    refine ⟨_, rfl, d, _, rfl, dg hd (g_turn c i l t), _, _, rfl, rfl, _, rfl, d, _, rfl, dp hd (fkv_len c i l t) (p_turn c i l t _), ?_⟩
    refine ⟨_, rfl, d, _, rfl, dg upd_same (g_left c i l _), rfl, _, rfl, ?_⟩
    refine ite2 (fun _ => ?_) (fun _ => ?_)
    rotate_left
    · refine ⟨_, rfl, d, _, rfl, dg upd_same (g_left c _ _ _), _, rfl, _, _, rfl, rfl, m0, ?_⟩
      refine ⟨_, rfl, d, _, rfl, dg upd_same (g_left c _ _ _), _, rfl, _, _, rfl, rfl, ⟨m0, by omega⟩, _, rfl, d, _, rfl, dp upd_same (fkv_len c _ _ _) (p_left c _ _ _ _), ?_⟩
      refine ⟨_, rfl, ?_⟩
      rw [upd_upd]
      exact fin _ _ _ _ (Int.emod_nonneg _ (by omega)) (Int.emod_lt_of_pos _ m0)
    obtain ⟨n, hn⟩ := cell_at hne i
    refine ⟨_, rfl, d, _, rfl, dg upd_same (g_cells c i l _), _, rfl, d, _, rfl, dg upd_same (g_at c i l _), _, rfl, d, _, rfl, dg upd_same (g_cells c i l _), c, _, rfl, .inl (SqL.of (c1 _)), _, _, rfl, rfl, hl0, c, _, _, _, rfl, rfl, SqL.of (c1 _), hn, ?_⟩
    refine ⟨_, rfl, d, _, rfl, dg upd_same (g_at c i l _), _, _, rfl, rfl, _, rfl, d, _, rfl, dp upd_same (fkv_len c i l _) (p_at c i l _ _), ?_⟩
    rw [upd_upd]
    refine ⟨_, rfl, _, _, rfl, rfl, ⟨by decide, by decide, by decide⟩, _, _, rfl, rfl, _, rfl, ?_⟩
    refine ite2 (fun _ => ?_) (fun _ => ?_)
    · refine ⟨_, rfl, _, _, rfl, rfl, (by show (0 : Int) < 2147483629; decide), _, rfl, d, _, rfl, dg upd_same (g_turn c _ l _), _, _, rfl, rfl, .inl ⟨by decide, by decide⟩, _, _, rfl, rfl, _, _, rfl, rfl, .inr ⟨by decide, by decide⟩, _, _, rfl, rfl, (by show (0 : Int) < 2147483647; decide), ?_⟩
      refine ⟨_, rfl, _, _, rfl, rfl, ⟨by decide, by decide⟩, _, rfl, d, _, rfl, dg upd_same (g_turn c _ l _), _, _, rfl, rfl, .inl ⟨by decide, by decide⟩, _, _, rfl, rfl, _, _, rfl, rfl, .inr ⟨by decide, by decide⟩, _, _, rfl, rfl, (by show (0 : Int) < 2147483587; decide), ?_⟩
      refine ⟨_, rfl, _, _, rfl, rfl, ⟨by decide, by decide⟩, _, rfl, _, _, rfl, rfl, m0, ?_⟩
      exact fin _ _ _ _ (Int.emod_nonneg _ (by omega)) (Int.emod_lt_of_pos _ m0)
    · refine ⟨_, rfl, _, rfl, d, _, rfl, dp upd_same (fkv_len c _ l _) (p_left c _ l _ _), ?_⟩
      rw [upd_upd]
      refine ⟨_, rfl, d, _, rfl, dg upd_same (g_left c _ _ _), _, rfl, _, _, rfl, rfl, m0, ?_⟩
      refine ⟨_, rfl, d, _, rfl, dg upd_same (g_left c _ _ _), _, rfl, _, _, rfl, rfl, ⟨m0, by omega⟩, _, rfl, d, _, rfl, dp upd_same (fkv_len c _ _ _) (p_left c _ _ _ _), ?_⟩
      refine ⟨_, rfl, ?_⟩
      rw [upd_upd]
      exact fin _ _ _ _ (Int.emod_nonneg _ (by omega)) (Int.emod_lt_of_pos _ m0)
end
section
variable {P : Program} {w : World} {K : PySem.W.Frag} {mg : Str → Option Value} {base : Heap} {aB : Addr}
abbrev s_feed : Stmt := top 27
theorem sc_feed : FnScope ["_law_script"] ["_law_script"] (defScope s_feed) := ⟨rfl, rfl, rfl, by decide +kernel, rfl, by decide +kernel, by decide +kernel⟩
theorem c_feed (D : Df K mg "_law_feed" s_feed) (T : Bt K w mg aB) : Fnc P w K mg base "_law_feed" ["_law_script"] 1 (spFeed K) := by
  have sc := sc_feed
  refine D.ok sc (fun _ _ _ _ _ _ us hl => match us, hl with | [_], _ => rfl) (fun vs H Q E h => ?_) (fun f cdv A outer s H vs Q E hr h => ?_)
  · obtain ⟨a, ns, rfl, _⟩ := h
    rfl
  · obtain ⟨a, ns, rfl, hS, hlen, k⟩ := h
    have hu := hu_of hr
    refine ⟨_, (@pss_one _ _ _ (@ps_ret _ _ _ _ (@pe_disp _ _ _ _ _ (@pps_cons _ _ _ _ _ _ _ _ _ pe_str (@pe_op _ _ _ _ _ _ _ _ op_cat (@pe_callTy _ _ _ _ _ _ _ _ _ call_list_of (by rfl) T.list b_list (@pa_cons _ _ _ _ _ (@pe_slice _ _ _ _ _ _ _ _ _ _ sl_list (pv 0) po_none (@po_some _ _ _ pe_int)) pa_nil (by rfl)) (by decide) (by decide) (by rfl) (by rfl)) (@pe_op _ _ _ _ _ _ _ _ op_rep (@pe_lst _ _ _ _ (@pa_cons _ _ _ _ _ pe_int pa_nil (by rfl))) (@pe_callTy _ _ _ _ _ _ _ _ _ call_int1 (by rfl) T.int b_int (@pa_cons _ _ _ _ _ (@pe_cmpR _ _ _ _ _ _ _ _ op_eq (@pe_callB _ _ _ _ _ _ _ _ _ call_len_seq (by rfl) T.len PySem.boot_len (@pa_cons _ _ _ _ _ (pv 0) pa_nil (by rfl)) (by decide) (by decide) (by rfl) (by rfl)) pe_int (nomark _)) pa_nil (by rfl)) (by decide) (by decide) (by rfl) (by rfl)))) (@pps_cons _ _ _ _ _ _ _ _ _ pe_str pe_int (@pps_cons _ _ _ _ _ _ _ _ _ pe_str pe_int (@pps_cons _ _ _ _ _ _ _ _ _ pe_str pe_int pps_nil)))) rfl rfl (by simp) (by decide)))), ?_⟩
    intro p hp
    have s1 : Same H (upd H p (.dK [])) := Same.new hp
    have p1 : (upd H p (.dK [])) p = some (.dK []) := upd_same
    generalize upd H p (.dK []) = H1 at s1 p1
    refine ⟨_, rfl, _, rfl, a, _, rfl, s1.seq hS, fun q1 hq1 => ?_⟩
    rw [cut63 hlen]
    have s2 : Same H1 (upd H1 q1 (.lst (ns.map V.int))) := Same.new hq1
    have l2 : (upd H1 q1 (.lst (ns.map V.int))) q1 = some (.lst (ns.map V.int)) := upd_same
    generalize upd H1 q1 (.lst (ns.map V.int)) = H2 at s2 l2 ⊢
    refine ⟨q1, _, rfl, .inl (SqL.of l2), fun q2 hq2 => ?_⟩
    have s3 : Same H2 (upd H2 q2 (.lst (ns.map V.int))) := Same.new hq2
    have l3 : (upd H2 q2 (.lst (ns.map V.int))) q2 = some (.lst (ns.map V.int)) := upd_same
    generalize upd H2 q2 (.lst (ns.map V.int)) = H3 at s3 l3 ⊢
    refine ⟨(by show 1 ≤ sizeLine; decide), fun q4 hq4 => ?_⟩
    have s4 : Same H3 (upd H3 q4 (.lst [V.int 0])) := Same.new hq4
    have l4 : (upd H3 q4 (.lst [V.int 0])) q4 = some (.lst [V.int 0]) := upd_same
    generalize upd H3 q4 (.lst [V.int 0]) = H4 at s4 l4 ⊢
    have s14 : Same H H4 := ((s1.trans s2).trans s3).trans s4
    refine ⟨_, rfl, a, _, rfl, .inl (s14.seq hS), rfl, .inr ⟨_, rfl, q4, _, _, rfl, rfl, l4, ?_, ?_, ?_, fun q5 hq5 => ?_⟩⟩
    · split <;> decide
    · split <;> decide
    · split <;> decide
    have s5 : Same H4 (upd H4 q5 (.lst (List.replicate ((if decide (V.int ((ns.map V.int).length : Int) = V.int 0) = true then 1 else 0 : Int)).toNat [V.int 0]).flatten)) := Same.new hq5
    have l5 : (upd H4 q5 (.lst (List.replicate ((if decide (V.int ((ns.map V.int).length : Int) = V.int 0) = true then 1 else 0 : Int)).toNat [V.int 0]).flatten)) q5 = _ := upd_same
    generalize upd H4 q5 (.lst (List.replicate ((if decide (V.int ((ns.map V.int).length : Int) = V.int 0) = true then 1 else 0 : Int)).toNat [V.int 0]).flatten) = H5 at s5 l5 ⊢
    refine ⟨q2, q5, _, _, rfl, rfl, s5 _ _ (s4 _ _ l3), l5, ?_, fun q6 hq6 => ?_⟩
    · have e : (List.replicate ((if decide (V.int ((ns.map V.int).length : Int) = V.int 0) = true then 1 else 0 : Int)).toNat [V.int 0]).flatten.length ≤ 1 := by split <;> decide
      have e2 : sizeLine = 16777216 := sizeLine_eq
      have e3 : (ns.map V.int).length = ns.length := List.length_map ..
      omega
    have el : ns.map V.int ++ (List.replicate ((if decide (V.int ((ns.map V.int).length : Int) = V.int 0) = true then 1 else 0 : Int)).toNat [V.int 0]).flatten = (if ns = [] then [0] else ns).map V.int := by
      cases ns with
      | nil => rfl
      | cons n r =>
        have en : ¬ (decide (V.int (((n :: r).map V.int).length : Int) = V.int 0) = true) := by
          rw [List.length_map, List.length_cons]
          simp only [V.int.injEq, decide_eq_true_eq]
          omega
        rw [if_neg en, if_neg (by simp)]
        simp
    rw [el]
    have s6 : Same H5 (upd H5 q6 (.lst ((if ns = [] then [0] else ns).map V.int))) := Same.new hq6
    have l6 : (upd H5 q6 (.lst ((if ns = [] then [0] else ns).map V.int))) q6 = _ := upd_same
    generalize upd H5 q6 (.lst ((if ns = [] then [0] else ns).map V.int)) = H6 at s6 l6 ⊢
    have p6 : H6 p = some (.dK []) := s6 _ _ (s5 _ _ (s4 _ _ (s3 _ _ (s2 _ _ p1))))
    have pq : q6 ≠ p := ne_of l6 p6 (by intro z; cases z)
    refine ⟨p6, fkv q6 0 0 0, rfl, (by show 4 ≤ 15; decide), ?_⟩
    rw [m_fkv]
    refine k p _ hp ⟨q6, 0, 0, 0, (if ns = [] then [0] else ns), upd_same, by rw [upd_ne pq]; exact l6, ?_, ?_⟩ fun b o e => ?_
    · split
      · simp
      · assumption
    · split
      · decide
      · omega
    · rw [upd_ne (ne_of_none e hp)]
      exact s6 _ _ (s5 _ _ (s14 _ _ e))
end
end Kx
set_option Elab.async false
set_option linter.all false
set_option maxRecDepth 100000
set_option maxHeartbeats 0
namespace Kx
open PySem PySem.Spec PyProof.Rows L2 Wd
section
variable {P : Program} {w : World} {K : PySem.W.Frag} {mg : Str → Option Value} {base : Heap} {aB : Addr}
abbrev s_back : Stmt := top 7
theorem sc_back : FnScope ["word"] ["word"] (defScope s_back) := ⟨rfl, rfl, rfl, by decide +kernel, rfl, by decide +kernel, by decide +kernel⟩
theorem c_back (D : Df K mg "back" s_back) (T : Bt K w mg aB) : Fnc P w K mg base "back" ["word"] 1 spBk := by
  have sc := sc_back
  refine D.ok sc (fun _ _ _ _ _ _ us hl => match us, hl with | [_], _ => rfl) (fun vs H Q E h => ?_) (fun f cdv A outer s H vs Q E hr h => ?_)
  · obtain ⟨u, rfl, _⟩ := h
    rfl
  · obtain ⟨u, rfl, hu, k⟩ := h
    have l16 := line16
    refine ⟨_, (@pss_one _ _ _ (@ps_ret _ _ _ _ (@pe_bm _ _ _ _ _ _ _ _ _ _ _ _ PySem.F.plainAttrs_str PySem.F.slot_str_join PySem.F.type_str_join mt_join pe_str (@pa_cons _ _ _ _ _ (@pe_comp _ _ _ _ _ _ _ (["letter"]) (["letter"]) ([]) _ _ _ _ (@blk_of _ _ _ _ _ _ rfl (by kernel_rfl)) rfl (@pi_strR _ _ _ _ _ _ rfl T.reversed b_reversed (@pa_cons _ _ _ _ _ (pv 0) pa_nil (by rfl)) (by rfl)) (fun _ _ _ _ => @pg_name _ _ (0) _ (show (["letter"] : List Str).Nodup from by decide +kernel) rfl (Or.inl rfl) (by first | exact .inl rfl | exact .inr rfl | assumption)) (fun _ _ _ _ => pifs_nil) (fun _ _ _ _ => by (exact (@pe_kget _ _ _ _ _ _ _ _ _ T.dB rfl rfl rfl T.mgB (pv 0) (fun _ _ => rfl) (by decide)))) (by intro _ ; rfl)) pa_nil (by rfl)) (by rfl) (by rfl) (by rfl) (by rfl) (by rfl)))), ?_⟩
    refine ⟨rfl, _, rfl, _, rfl, (by rw [toS_length]; omega), ?_⟩
    refine comp_by (own := ["letter"]) (cap := []) (J := Itsr (toS u)) u.length (fun i ys σ H' => H' = H ∧ ys = ones ((bk u).take i) ∧ ∃ v, σ = [v]) ⟨rfl, rfl, none, rfl⟩ (fun i ys σ H' hi ⟨_, e, _⟩ => ?_) (by omega) (fun i ys σ H' hi _ => ?_) (fun ys σ H' _ => ?_) ?_ ?_
    · rw [e, ones_length, List.length_take]; omega
    · show i < (toS u).cps.size; rw [toS_size]; exact hi
    · show _ = (toS u).cps.size; rw [toS_size]
    · rintro i ys σ H1 x H2 N hi ⟨rfl, rfl, v, rfl⟩ ⟨rfl, c, hc, rfl⟩ hN
      rw [toS_size] at hc
      obtain ⟨y, hy, e⟩ := sign_at hc
      obtain ⟨t, ht⟩ := T.gB y
      refine ⟨_, rfl, toS [y], toS [inv y], t, by rw [e], ht, hN _ _ _ ⟨rfl, ?_, _, rfl⟩⟩
      rw [take_snoc (bk_get u hi hy), ← ones_snoc]
      rfl
    · rintro ys σ H1 l ⟨rfl, rfl, v, rfl⟩ hl
      rw [List.take_of_length_le (by rw [bk_length]; exact Nat.le_refl _)]
      refine ⟨_, l, (bk u).map fun x => toS [x], rfl, rfl, SqL.of (by rw [upd_same, ones_str]), join_room _ (by rw [bk_length]; omega), ?_⟩
      rw [join_ones]
      exact k _ (Same.new hl)
end
section
variable {P : Program} {w : World} {K : PySem.W.Frag} {mg : Str → Option Value} {base : Heap} {aB : Addr}
abbrev s_lback : Stmt := top 29
theorem sc_lback : FnScope ["_law_word", "_law_found", "_law_sign"] ["_law_word"] (defScope s_lback) := ⟨rfl, rfl, rfl, by decide +kernel, rfl, by decide +kernel, by decide +kernel⟩
theorem c_lback (D : Df K mg "_law_back" s_lback) : Fnc P w K mg base "_law_back" ["_law_word"] 1 spBk := by
  have sc := sc_lback
  refine D.ok sc (fun _ _ _ _ _ _ us hl => match us, hl with | [_], _ => rfl) (fun vs H Q E h => ?_) (fun f cdv A outer s H vs Q E hr h => ?_)
  · obtain ⟨u, rfl, _⟩ := h
    rfl
  · obtain ⟨u, rfl, hu, k⟩ := h
    have l16 := line16
    refine ⟨_, (@pss_cons _ _ _ _ _ (@ps_set _ _ (1) _ _ _ _ sc.nd rfl (Or.inl rfl) pe_str (by rfl) (by first | exact .inl rfl | exact .inr rfl | assumption)) (@pss_cons _ _ _ _ _ (@ps_for _ _ _ _ _ _ _ _ PassesOwn.never rfl (@pi_str _ _ _ _ (pv 0)) (@pg_name _ _ (2) _ sc.nd rfl (Or.inl rfl) (by first | exact .inl rfl | exact .inr rfl | assumption)) (@pss_one _ _ _ (@ps_set _ _ (1) _ _ _ _ sc.nd rfl (Or.inl rfl) (@pe_op _ _ _ _ _ _ _ _ op_add_str (@pe_ifExp _ _ _ _ _ _ _ _ (@pt_cmpR _ _ _ _ _ _ _ _ op_in_str (pv 2) pe_str rfl) (@pe_bm0 _ _ _ _ _ _ _ _ _ PySem.F.plainAttrs_str PySem.F.slot_str_upper PySem.F.type_str_upper mt_upper (pv 2) (by rfl) (by rfl)) (@pe_bm0 _ _ _ _ _ _ _ _ _ PySem.F.plainAttrs_str PySem.F.slot_str_lower PySem.F.type_str_lower mt_lower (pv 2) (by rfl) (by rfl))) (pv 1)) (by rfl) (by first | exact .inl rfl | exact .inr rfl | assumption))) (by intro _ ; rfl)) (@pss_one _ _ _ (@ps_ret _ _ _ _ (pv 1))))), ?_⟩
    refine ⟨_, rfl, _, rfl, for_str (z := toS u) (fun i σ H' => ∃ v, σ = [some (tx u), some (tx (bk (u.take i))), v] ∧ H' = H) ⟨none, (by rw [List.take_zero]; show _ = [some (tx u), some (tx []), none]; rw [tx_nil]; rfl), rfl⟩ ?_ ?_⟩
    · rintro i c σ H1 hc ⟨v, rfl, rfl⟩
      obtain ⟨x, hx, e⟩ := sign_at hc
      rw [e]
      have hi : i < u.length := (List.getElem?_eq_some_iff.mp hx).1
      have fin : ∀ z, z = toS [inv x] → ∃ v', [some (tx u), some (V.str (z ++ toS (bk (u.take i)))), some (V.str (toS [x]))] = [some (tx u), some (tx (bk (u.take (i + 1)))), v'] ∧ H1 = H1 := fun z ez => by
        refine ⟨some (V.str (toS [x])), ?_, rfl⟩
        rw [ez, tx_app, take_snoc hx, bk_append]
        rfl
      have room : ∀ z, z = toS [inv x] → z.length + (toS (bk (u.take i))).length ≤ sizeLine := fun z ez => by
        rw [ez, toS_length, toS_length, bk_length, List.length_take]
        simp only [List.length_singleton]
        omega
      refine ⟨_, rfl, _, _, rfl, rfl, _, rfl, ?_⟩
      rw [in_small]
      refine ite2 (fun h => ?_) (fun h => ?_)
      · have h : x.val < 6 := by simpa using h
        exact ⟨_, rfl, rfl, _, rfl, rfl, (by rw [toS_length]; show 1 ≤ 5592405; decide), _, rfl, _, _, rfl, rfl, room _ (upper_one h), fin _ (upper_one h)⟩
      · have h : ¬ x.val < 6 := by simpa using h
        exact ⟨_, rfl, rfl, _, rfl, rfl, (by rw [toS_length]; show 1 ≤ 5592405; decide), _, rfl, _, _, rfl, rfl, room _ (lower_one h), fin _ (lower_one h)⟩
    · rintro σ H1 ⟨v, rfl, rfl⟩
      rw [toS_size, List.take_length]
      exact ⟨_, rfl, k _ (Same.refl _)⟩
end
end Kx
set_option Elab.async false
set_option linter.all false
set_option maxRecDepth 100000
set_option maxHeartbeats 0
namespace Kx
open PySem PySem.Spec PyProof.Rows L2 Wd
section
variable {P : Program} {w : World} {K : PySem.W.Frag} {mg : Str → Option Value} {base : Heap} {aB : Addr}
abbrev s_hole : Stmt := top 12
theorem sc_hole : FnScope ["surface", "start", "seen", "word", "gap", "letter"] ["surface", "start", "seen"] (defScope s_hole) := ⟨rfl, rfl, rfl, by decide +kernel, rfl, by decide +kernel, by decide +kernel⟩
theorem c_hole (D : Df K mg "hole_from" s_hole) (T : Bt K w mg aB) (F_back : Fnc P w K mg base "back" ["word"] 1 spBk) : Fnc P w K mg base "hole_from" ["surface", "start", "seen"] 2 spHole := by
  have sc := sc_hole
  refine D.ok sc (fun _ _ _ _ _ _ us hl => match us, hl with | [_, _, _], _ => rfl) (fun vs H Q E h => ?_) (fun f cdv A outer s H vs Q E hr h => ?_)
  · obtain ⟨u, g, a, S, rfl, _⟩ := h
    rfl
  · obtain ⟨u, g0, a, S0, rfl, U, hg0, hs0, ha0, k⟩ := h
    have hu := hu_of hr
    have l16 := line16
    have h12 := U.le
    have hpos := U.pos
    refine ⟨_, (@pss_cons _ _ _ _ _ (@ps_set _ _ (3) _ _ _ _ sc.nd rfl (Or.inl rfl) pe_str (by rfl) (by first | exact .inl rfl | exact .inr rfl | assumption)) (@pss_cons _ _ _ _ _ (@ps_set _ _ (4) _ _ _ _ sc.nd rfl (Or.inl rfl) (pv 1) (by rfl) (by first | exact .inl rfl | exact .inr rfl | assumption)) (@pss_cons _ _ _ _ _ (@ps_while _ _ _ _ _ _ PassesOwn.never (@pt_dnot _ _ _ _ _ _ hu (pv 4) (pv 2) rfl) (@pss_cons _ _ _ _ _ (@ps_dput _ _ _ _ _ _ _ _ _ hu (pv 2) (pv 4) pe_bl rfl) (@pss_cons _ _ _ _ _ (@ps_set _ _ (5) _ _ _ _ sc.nd rfl (Or.inl rfl) (@pe_ix _ _ _ _ _ _ _ ix_str (pv 0) (@pe_op _ _ _ _ _ _ _ _ op_mod (@pe_op _ _ _ _ _ _ _ _ op_add (pv 4) pe_int) (@pe_callB _ _ _ _ _ _ _ _ _ call_len_str (by rfl) T.len PySem.boot_len (@pa_cons _ _ _ _ _ (pv 0) pa_nil (by rfl)) (by decide) (by decide) (by rfl) (by rfl))) (fun _ _ => rfl)) (by rfl) (by first | exact .inl rfl | exact .inr rfl | assumption)) (@pss_cons _ _ _ _ _ (@ps_set _ _ (3) _ _ _ _ sc.nd rfl (Or.inl rfl) (@pe_op _ _ _ _ _ _ _ _ op_add_str (pv 3) (pv 5)) (by rfl) (by first | exact .inl rfl | exact .inr rfl | assumption)) (@pss_one _ _ _ (@ps_set _ _ (4) _ _ _ _ sc.nd rfl (Or.inl rfl) (@pe_bm _ _ _ _ _ _ _ _ _ _ _ _ PySem.F.plainAttrs_str PySem.F.slot_str_index PySem.F.type_str_index mt_index (pv 0) (@pa_cons _ _ _ _ _ (@pe_fn _ _ _ _ _ _ _ _ _ _ _ F_back hr (by decide) rfl (@pa_cons _ _ _ _ _ (pv 5) pa_nil (by rfl)) (by decide) (by rfl) (by rfl)) pa_nil (by rfl)) (by rfl) (by rfl) (by rfl) (by rfl) (by rfl)) (by rfl) (by first | exact .inl rfl | exact .inr rfl | assumption))))))) (@pss_one _ _ _ (@ps_ret _ _ _ _ (pv 3)))))), ?_⟩
    refine ⟨_, rfl, ?_⟩
    refine ⟨fun m σ H' => ∃ (S : List Nat) (w : List L) (g : Nat) (v : Option V), σ = [some (tx u), some (.int g0), some (.ref a), some (tx w), some (.int g), v] ∧ Sn u S ∧ g < u.length ∧ H' a = some (.dK (sk S)) ∧ SameB a H H' ∧ wk u g S w = wk u g0 S0 [] ∧ w.length ≤ S.length ∧ m = u.length + 1 - S.length, ⟨_, S0, [], g0, none, rfl, hs0, hg0, ha0, SameB.refl _ _, rfl, Nat.zero_le _, rfl⟩, ?_⟩
    rintro m σ H1 ⟨S, w, g, v, rfl, hs, hg, ha, sb, e, hw, rfl⟩
    have hle := hs.le
    refine ⟨_, rfl, _, rfl, a, _, rfl, DGet.k (k := Sum.inl (g : Int)) ha, ?_⟩
    rw [sk_get]
    refine ⟨_, rfl, ?_⟩
    refine ite2 (fun h => ?_) (fun h => ?_)
    · have h : g ∉ S := by simpa using h
      have hs' := hs.snoc hg h
      have hle' := hs'.le
      rw [List.length_append, List.length_singleton] at hle'
      refine ⟨_, fun σ' H' q => q, ?_⟩
      refine ⟨_, rfl, _, rfl, a, _, rfl, DPut.k (k := Sum.inl (g : Int)) ha (by rw [sk_len]; omega), ?_⟩
      rw [sk_put h]
      have hx := letH_get U g
      have em : ((g : Int) + 1) % (u.length : Int) = (((g + 1) % u.length : Nat) : Int) := by rw [Int.natCast_emod]; rfl
      refine ⟨_, rfl, _, rfl, _, _, rfl, rfl, _, rfl, _, rfl, (by rw [toS_length]; omega), _, _, rfl, rfl, (by rw [toS_length]; omega), _, _, cp (letH u g), rfl, rfl, (by rw [toS_length]; omega), atI_toS (k := (g + 1) % u.length) (by rw [toS_length]; exact em) hx, ?_⟩
      refine ⟨_, rfl, _, rfl, _, _, rfl, rfl, (by rw [toS_length]; show w.length + 1 ≤ sizeLine; omega), ?_⟩
      obtain ⟨rest, ho⟩ := idx_at (U.iv _ (letH_mem U g))
      refine ⟨_, rfl, rfl, _, rfl, [letH u g], rfl, (by show 1 ≤ 5000; decide), fun H2 s2 => ?_⟩
      rw [bk_one]
      refine ⟨_, _, _, rest, rfl, rfl, ho, ?_⟩
      have e2 := (wk_out (w := w) hs hg h).symm.trans e
      refine ⟨u.length + 1 - (S ++ [g]).length, ?_, S ++ [g], w ++ [letH u g], stepH u g, some (tx [letH u g]), (by rw [← tx_app]; rfl), hs', stepH_lt U g, s2 _ _ upd_same, (sb.trans SameB.upd).trans s2.b, e2, ?_, rfl⟩
      · rw [List.length_append, List.length_singleton]
        omega
      · rw [List.length_append, List.length_append]
        simp only [List.length_singleton]
        omega
    · have h : g ∈ S := by simpa using h
      rw [wk_in h] at e
      rw [← e] at k
      exact ⟨_, rfl, k _ ha hs sb⟩
end
section
variable {P : Program} {w : World} {K : PySem.W.Frag} {mg : Str → Option Value} {base : Heap} {aB : Addr}
abbrev s_holes : Stmt := top 11
theorem sc_holes : FnScope ["surface", "told", "seen", "gap"] ["surface"] (defScope s_holes) := ⟨rfl, rfl, rfl, by decide +kernel, rfl, by decide +kernel, by decide +kernel⟩
theorem c_holes (D : Df K mg "holes" s_holes) (T : Bt K w mg aB) (F_hole : Fnc P w K mg base "hole_from" ["surface", "start", "seen"] 2 spHole) : Fnc P w K mg base "holes" ["surface"] 3 spHoles := by
  have sc := sc_holes
  refine D.ok sc (fun _ _ _ _ _ _ us hl => match us, hl with | [_], _ => rfl) (fun vs H Q E h => ?_) (fun f cdv A outer s H vs Q E hr h => ?_)
  · obtain ⟨u, rfl, _⟩ := h
    rfl
  · obtain ⟨u, rfl, U, k⟩ := h
    have hu := hu_of hr
    have l16 := line16
    have h12 := U.le
    refine ⟨_, (@pss_cons _ _ _ _ _ (@ps_set _ _ (1) _ _ _ _ sc.nd rfl (Or.inl rfl) (@pe_lst _ _ _ _ pa_nil) (by rfl) (by first | exact .inl rfl | exact .inr rfl | assumption)) (@pss_cons _ _ _ _ _ (@ps_set _ _ (2) _ _ _ _ sc.nd rfl (Or.inl rfl) pe_dnewK (by rfl) (by first | exact .inl rfl | exact .inr rfl | assumption)) (@pss_cons _ _ _ _ _ (@ps_for _ _ _ _ _ _ _ _ PassesOwn.never rfl (@pi_range1 _ _ _ _ _ _ rfl T.range (@pa_cons _ _ _ _ _ (@pe_callB _ _ _ _ _ _ _ _ _ call_len_str (by rfl) T.len PySem.boot_len (@pa_cons _ _ _ _ _ (pv 0) pa_nil (by rfl)) (by decide) (by decide) (by rfl) (by rfl)) pa_nil (by rfl)) (by rfl)) (@pg_name _ _ (3) _ sc.nd rfl (Or.inl rfl) (by first | exact .inl rfl | exact .inr rfl | assumption)) (@pss_one _ _ _ (@ps_if _ _ _ _ _ _ _ _ (@pt_dnot _ _ _ _ _ _ hu (pv 3) (pv 2) rfl) (@pss_one _ _ _ (@ps_expr _ _ _ _ (@pe_bm _ _ _ _ _ _ _ _ _ _ _ _ PySem.F.plainAttrs_list PySem.F.slot_list_append PySem.F.type_list_append mt_append (pv 1) (@pa_cons _ _ _ _ _ (@pe_fn _ _ _ _ _ _ _ _ _ _ _ F_hole hr (by decide) rfl (@pa_cons _ _ _ _ _ (pv 0) (@pa_cons _ _ _ _ _ (pv 3) (@pa_cons _ _ _ _ _ (pv 2) pa_nil (by rfl)) (by rfl)) (by rfl)) (by decide) (by rfl) (by rfl)) pa_nil (by rfl)) (by rfl) (by rfl) (by rfl) (by rfl) (by rfl)) (by rfl))) pss_nil)) (by intro _ ; rfl)) (@pss_one _ _ _ (@ps_ret _ _ _ _ (pv 1)))))), ?_⟩
    refine ⟨(by show 0 ≤ sizeLine; decide), fun l hl => ?_⟩
    have s1 : Same H (upd H l (.lst [])) := Same.new hl
    have f1 : (upd H l (.lst [])) l = some (.lst []) := upd_same
    generalize upd H l (.lst []) = H1 at s1 f1 ⊢
    intro a ha
    have la : a ≠ l := (ne_of_none f1 ha).symm
    have s2 : Same H1 (upd H1 a (.dK [])) := Same.new ha
    have f2 : (upd H1 a (.dK [])) a = some (.dK []) := upd_same
    have g1 := s2 _ _ f1
    have s2 := s1.trans s2
    generalize upd H1 a (.dK []) = H2 at s2 f2 g1 ⊢
    have na : H a = none := by
      cases e : H a with
      | none => rfl
      | some o => exact absurd (s1 _ _ e) (by rw [ha]; intro z; cases z)
    refine ⟨_, rfl, _, rfl, (by rw [toS_length]; omega), _, rfl, (by rw [toS_length]; omega), (by rw [toS_length]; omega), ?_⟩
    rw [toS_length]
    refine for_range (lo := 0) (n := (u.length : Int).toNat) (fun i σ H' => ∃ v : Option V, σ = [some (tx u), some (.ref l), some (.ref a), v] ∧ H' l = some (.lst ((holS u i).2.map tx)) ∧ H' a = some (.dK (sk (holS u i).1)) ∧ Sn u (holS u i).1 ∧ Same H H') ⟨none, rfl, g1, f2, Sn.nil u, s2⟩ ?_ ?_
    · rintro i σ H3 hi ⟨v, rfl, h1, h2, hs, s3⟩
      have hi : i < u.length := by omega
      rw [Int.zero_add]
      refine ⟨_, rfl, _, rfl, a, _, rfl, DGet.k (k := Sum.inl (i : Int)) h2, ?_⟩
      rw [sk_get]
      refine ⟨_, rfl, ?_⟩
      refine ite2 (fun h => ?_) (fun h => ?_)
      · have h : i ∉ (holS u i).1 := by simpa using h
        refine ⟨_, rfl, .inl ⟨rfl, _, SqL.of h1⟩, _, rfl, _, rfl, _, rfl, u, i, a, _, rfl, U, hi, hs, h2, fun H4 q1 q2 q3 => ?_⟩
        have h4 := q3 _ _ la.symm h1
        have hlen := hol_txs u i
        refine ⟨l, _, _, rfl, rfl, h4, by omega, _, rfl, ?_, ?_, ?_, ?_⟩
        · rw [upd_same, hol_out h, List.map_append]
          rfl
        · rw [upd_ne la, hol_out h]
          exact q1
        · rw [hol_out h]
          exact q2
        · intro b o e
          rw [upd_ne (ne_of_none e hl)]
          exact q3 _ _ (ne_of_none e na) (s3 _ _ e)
      · have h : i ∈ (holS u i).1 := by simpa using h
        exact ⟨_, rfl, by rw [hol_in h]; exact h1, by rw [hol_in h]; exact h2, by rw [hol_in h]; exact hs, s3⟩
    · rintro σ H3 ⟨v, rfl, h1, h2, hs, s3⟩
      exact ⟨_, rfl, k l _ hl h1 s3⟩
end
end Kx
set_option Elab.async false
set_option linter.all false
set_option maxRecDepth 100000
set_option maxHeartbeats 0
namespace Kx
open PySem PySem.Spec PyProof.Rows L2 Wd
section
variable {P : Program} {w : World} {K : PySem.W.Frag} {mg : Str → Option Value} {base : Heap} {aB : Addr}
abbrev s_letter : Stmt := top 4
theorem sc_letter : FnScope ["thing"] ["thing"] (defScope s_letter) := ⟨rfl, rfl, rfl, by decide +kernel, rfl, by decide +kernel, by decide +kernel⟩
theorem c_letter (D : Df K mg "is_letter" s_letter) (T : Bt K w mg aB) (B : Bk K aB) : Fnc P w K mg base "is_letter" ["thing"] 1 (spLetter K) := by
  have sc := sc_letter
  refine D.ok sc (fun _ _ _ _ _ _ us hl => match us, hl with | [_], _ => rfl) (fun vs H Q E h => ?_) (fun f cdv A outer s H vs Q E hr h => ?_)
  · obtain ⟨x, rfl, _⟩ := h
    rfl
  · obtain ⟨x, rfl, hx, k⟩ := h
    refine ⟨_, (@pss_one _ _ _ (@ps_ret _ _ _ _ (@pe_and _ _ _ _ _ _ _ (@pe_callB _ _ _ _ _ _ _ _ _ (@call_isK _ (K) rfl) (by rfl) T.isinstance b_isinstance (@pa_cons _ _ _ _ _ (pv 0) (@pa_cons _ _ _ _ _ (@pe_bltn _ _ (.ty "str") _ _ rfl T.str b_str rfl (by decide) (by decide)) pa_nil (by rfl)) (by rfl)) (by decide) (by decide) (by rfl) (by rfl)) (@pe_one _ _ _ _ _ (@pe_kin _ _ _ _ _ _ _ _ _ T.dB rfl rfl B.lo rfl T.mgB (pv 0) (by decide)))))), ?_⟩
    cases hx with
    | str z hz =>
      obtain ⟨r, hr1, hr2⟩ := B.all z
      refine ⟨_, rfl, _, _, _, _, rfl, .str z, kit_str, true, rfl, ?_⟩
      refine iteC rfl ⟨_, rfl, z, r, rfl, hr1, ?_⟩
      rw [hr2]
      exact k
    | oth ty e ns =>
      refine ⟨_, rfl, _, _, _, _, rfl, ty, e, false, rfl, ?_⟩
      rw [letV_oth ns] at k
      exact iteD rfl k
abbrev s_num : Stmt := top 6
theorem sc_num : FnScope ["letter"] ["letter"] (defScope s_num) := ⟨rfl, rfl, rfl, by decide +kernel, rfl, by decide +kernel, by decide +kernel⟩
theorem c_num (D : Df K mg "number_of" s_num) (T : Bt K w mg aB) (S : ∃ t, mg "SMALL" = some (.str "abcdef" t)) : Fnc P w K mg base "number_of" ["letter"] 1 spNum := by
  have sc := sc_num
  refine D.ok sc (fun _ _ _ _ _ _ us hl => match us, hl with | [_], _ => rfl) (fun vs H Q E h => ?_) (fun f cdv A outer s H vs Q E hr h => ?_)
  · obtain ⟨x, rfl, _⟩ := h
    rfl
  · obtain ⟨x, rfl, k⟩ := h
    obtain ⟨tS, mgS⟩ := S
    refine ⟨_, (@pss_one _ _ _ (@ps_ret _ _ _ _ (@pe_bm _ _ _ _ _ _ _ _ _ _ _ _ PySem.F.plainAttrs_str PySem.F.slot_str_index PySem.F.type_str_index mt_index (@pe_glob _ _ (.str "abcdef") _ _ rfl mgS ⟨_, rfl⟩ (by decide)) (@pa_cons _ _ _ _ _ (@pe_bm0 _ _ _ _ _ _ _ _ _ PySem.F.plainAttrs_str PySem.F.slot_str_lower PySem.F.type_str_lower mt_lower (pv 0) (by rfl) (by rfl)) pa_nil (by rfl)) (by rfl) (by rfl) (by rfl) (by rfl) (by rfl)))), ?_⟩
    exact ⟨rfl, _, rfl, rfl, _, rfl, rfl, (by rw [toS_length]; show 1 ≤ 5592405; decide), _, _, _, _, rfl, rfl, num_at x, k⟩
abbrev s_word : Stmt := top 5
theorem sc_word : FnScope ["many", "thing"] ["many", "thing"] (defScope s_word) := ⟨rfl, rfl, rfl, by decide +kernel, rfl, by decide +kernel, by decide +kernel⟩
theorem c_word (D : Df K mg "is_word" s_word) (T : Bt K w mg aB) (F_letter : Fnc P w K mg base "is_letter" ["thing"] 1 (spLetter K)) (F_num : Fnc P w K mg base "number_of" ["letter"] 1 spNum) : Fnc P w K mg base "is_word" ["many", "thing"] 2 (spIsW K) := by
  have sc := sc_word
  refine D.ok sc (fun _ _ _ _ _ _ us hl => match us, hl with | [_, _], _ => rfl) (fun vs H Q E h => ?_) (fun f cdv A outer s H vs Q E hr h => ?_)
  · obtain ⟨m, x, rfl, _⟩ := h
    rfl
  · obtain ⟨m, x, rfl, m1, m2, hx, k⟩ := h
    have l16 := line16
    refine ⟨_, (@pss_cons _ _ _ _ _ (@ps_if _ _ _ _ _ _ _ _ (@pt_not _ _ _ _ (@pt_truth _ _ _ (@pe_callB _ _ _ _ _ _ _ _ _ (@call_isK _ (K) rfl) (by rfl) T.isinstance b_isinstance (@pa_cons _ _ _ _ _ (pv 1) (@pa_cons _ _ _ _ _ (@pe_bltn _ _ (.ty "str") _ _ rfl T.str b_str rfl (by decide) (by decide)) pa_nil (by rfl)) (by rfl)) (by decide) (by decide) (by rfl) (by rfl)) (fun _ => rfl))) (@pss_one _ _ _ (@ps_ret _ _ _ _ pe_bl)) pss_nil) (@pss_one _ _ _ (@ps_ret _ _ _ _ (@pe_callB _ _ _ _ _ _ _ _ _ (@call_all_bools _ rfl) (by rfl) T.all b_all (@pa_cons _ _ _ _ _ (@pe_comp _ _ _ _ _ _ _ (["sign", "many"]) (["sign"]) ([0]) _ _ _ _ (@blk_of _ _ _ _ _ _ rfl (by kernel_rfl)) rfl (@pi_str _ _ _ _ (pv 1)) (fun _ _ _ _ => @pg_name _ _ (0) _ (show (["sign", "many"] : List Str).Nodup from by decide +kernel) rfl (Or.inl rfl) (by first | exact .inl rfl | exact .inr rfl | assumption)) (fun _ _ _ _ => pifs_nil) (fun _ _ _ _ => by (exact @pe_and _ _ _ _ _ _ _ (by (exact (@pe_fn _ _ _ _ _ _ _ _ _ _ _ F_letter hr (by decide) rfl (@pa_cons _ _ _ _ _ (pv 0) pa_nil (by rfl)) (by decide) (by rfl) (by rfl)))) (by (exact @pe_one _ _ _ _ _ (by (exact @pe_cmpR _ _ _ _ _ _ _ _ op_lt (by (exact (@pe_fn _ _ _ _ _ _ _ _ _ _ _ F_num hr (by decide) rfl (@pa_cons _ _ _ _ _ (pv 0) pa_nil (by rfl)) (by decide) (by rfl) (by rfl)))) (by (exact (pv 1))) (nomark _))))))) (by intro _ ; rfl)) pa_nil (by rfl)) (by decide) (by decide) (by rfl) (by rfl))))), ?_⟩
    cases hx with
    | oth ty e ns =>
      refine ⟨_, rfl, _, _, _, _, rfl, ty, e, _, rfl, ?_⟩
      rw [wdV_oth ns] at k
      exact k _ (Same.refl _)
    | str z hz =>
      refine ⟨_, rfl, _, _, _, _, rfl, .str z, kit_str, _, rfl, ?_⟩
      refine ⟨_, rfl, _, rfl, ?_⟩
      refine comp_by (own := ["sign"]) (cap := [0]) (J := Its z) z.cps.size (fun i ys σ H' => ∃ v : Option V, σ = [v, some (.int m)] ∧ ys = (((z.cps.toList).take i).map (okC m)).map V.bl ∧ H' = H) ⟨none, rfl, rfl, rfl⟩ (fun i ys σ H' hi ⟨v, _, e, _⟩ => ?_) (by have : z.cps.size ≤ 500 := hz; omega) (fun i ys σ H' hi _ => hi) (fun ys σ H' _ => rfl) ?_ ?_
      · rw [e, List.length_map, List.length_map, List.length_take]; omega
      · rintro i ys σ H1 y H2 N hi ⟨v, rfl, rfl, rfl⟩ ⟨rfl, c, hc, rfl⟩ hN
        have hc' : z.cps.toList[i]? = some c := by simpa using hc
        have fin : ∀ b, b = okC m c → N ((((z.cps.toList).take i).map (okC m)).map V.bl ++ [.bl b]) [some (.str ⟨#[c]⟩), some (.int m)] H2 := fun b eb => hN _ _ _ ⟨_, rfl, by rw [List.take_add_one, hc', List.map_append, List.map_append, eb]; rfl, rfl⟩
        refine ⟨_, rfl, _, rfl, .str _ (by show 1 ≤ 500; decide), _, rfl, ?_⟩
        cases hl : (ltr c).isSome with
        | false =>
          refine iteD hl (fin _ (not_ok hl).symm)
        | true =>
          obtain ⟨x, e1, e2⟩ := isLet_ltr hl
          refine iteC hl ⟨_, rfl, x, by rw [e1]; rfl, _, rfl, ?_⟩
          refine ⟨_, _, rfl, rfl, fin _ ?_⟩
          rw [e2, one_ok]
      · rintro ys σ H1 l ⟨v, rfl, rfl, rfl⟩ hl
        refine ⟨l, _, rfl, SqL.of upd_same, ?_⟩
        rw [List.take_of_length_le (by simp), List.all_map]
        exact k _ (Same.new hl)
end
end Kx
set_option Elab.async false
set_option linter.all false
set_option maxRecDepth 100000
set_option maxHeartbeats 0
namespace Kx
open PySem PySem.Spec PyProof.Rows L2 Wd
section
variable {P : Program} {w : World} {K : PySem.W.Frag} {mg : Str → Option Value} {base : Heap} {aB : Addr}
abbrev s_isred : Stmt := top 8
theorem sc_isred : FnScope ["word"] ["word"] (defScope s_isred) := ⟨rfl, rfl, rfl, by decide +kernel, rfl, by decide +kernel, by decide +kernel⟩
theorem c_isred (D : Df K mg "is_reduced" s_isred) (T : Bt K w mg aB) : Fnc P w K mg base "is_reduced" ["word"] 1 spIsRed := by
  have sc := sc_isred
  refine D.ok sc (fun _ _ _ _ _ _ us hl => match us, hl with | [_], _ => rfl) (fun vs H Q E h => ?_) (fun f cdv A outer s H vs Q E hr h => ?_)
  · obtain ⟨u, rfl, _⟩ := h
    rfl
  · obtain ⟨u, rfl, hu, k⟩ := h
    have l16 := line16
    refine ⟨_, (@pss_one _ _ _ (@ps_ret _ _ _ _ (@pe_callB _ _ _ _ _ _ _ _ _ (@call_all_bools _ rfl) (by rfl) T.all b_all (@pa_cons _ _ _ _ _ (@pe_comp _ _ _ _ _ _ _ (["letter", "behind"]) (["letter", "behind"]) ([]) _ _ _ _ (@blk_of _ _ _ _ _ _ rfl (by kernel_rfl)) rfl (@pi_zip _ _ _ _ _ _ _ _ _ rfl T.zip b_zip (@pa_cons _ _ _ _ _ (pv 0) (@pa_cons _ _ _ _ _ (@pe_slice _ _ _ _ _ _ _ _ _ _ sl_str (pv 0) (@po_some _ _ _ pe_int) po_none) pa_nil (by rfl)) (by rfl)) (by rfl) (by rfl)) (fun _ _ _ _ => @pg_tupK _ (K) _ _ _ (2) _ rfl rfl (@pgs_cons _ _ _ _ _ (@pg_name _ _ (0) _ (show (["letter", "behind"] : List Str).Nodup from by decide +kernel) rfl (Or.inl rfl) (by first | exact .inl rfl | exact .inr rfl | assumption)) (@pgs_cons _ _ _ _ _ (@pg_name _ _ (1) _ (show (["letter", "behind"] : List Str).Nodup from by decide +kernel) rfl (Or.inl rfl) (by first | exact .inl rfl | exact .inr rfl | assumption)) pgs_nil (by rfl)) (by rfl)) (by rfl) (by rfl)) (fun _ _ _ _ => pifs_nil) (fun _ _ _ _ => by (exact @pe_cmpR _ _ _ _ _ _ _ _ op_ne (by (exact (@pe_kget _ _ _ _ _ _ _ _ _ T.dB rfl rfl rfl T.mgB (pv 0) (fun _ _ => rfl) (by decide)))) (by (exact (pv 1))) (nomark _))) (by intro _ ; rfl)) pa_nil (by rfl)) (by decide) (by decide) (by rfl) (by rfl)))), ?_⟩
    refine ⟨_, rfl, _, rfl, _, rfl, _, rfl, (by rw [toS_length]; omega), _, _, rfl, asc _, ?_, ?_⟩
    · rw [slice_toS]; exact asc _
    rw [slice_toS, cut_from _ (by decide)]
    have hm : min (toS u).cps.size (toS (u.drop 1)).cps.size = u.length - 1 := by rw [toS_size, toS_size, List.length_drop]; omega
    refine comp_by (own := ["letter", "behind"]) (cap := []) (J := Itz (toS u) (toS (u.drop 1))) (u.length - 1) (fun i ys σ H' => ∃ v1 v2 : Option V, σ = [v1, v2] ∧ ys = ((chk u).take i).map V.bl ∧ Same H H') ⟨none, none, rfl, rfl, Same.refl _⟩ (fun i ys σ H' hi ⟨_, _, _, e, _⟩ => ?_) (by omega) (fun i ys σ H' hi _ => ?_) (fun ys σ H' _ => ?_) ?_ ?_
    · rw [e, List.length_map, List.length_take]; omega
    · show i < min _ _; rw [hm]; exact hi
    · show _ = min _ _; rw [hm]
    · rintro i ys σ H1 v H2 N hi ⟨v1, v2, rfl, rfl, s1⟩ ⟨t, c, d, hn, rfl, hc, hd, rfl⟩ hN
      obtain ⟨x, hx, e⟩ := sign_at hc
      obtain ⟨y, hy, e2⟩ := sign_at hd
      obtain ⟨tk, hb⟩ := T.gB x
      refine ⟨t, _, rfl, SqT.of upd_same, rfl, _, _, rfl, _, _, rfl, rfl, ?_⟩
      refine ⟨_, rfl, toS [x], toS [inv x], tk, by rw [e], hb, _, rfl, rfl, hN _ _ _ ⟨_, _, rfl, ?_, s1.then hn⟩⟩
      rw [List.take_add_one, chk_at hx hy, List.map_append, e2]
      rfl
    · rintro ys σ H1 l ⟨v1, v2, rfl, rfl, s1⟩ hl
      refine ⟨l, _, rfl, SqL.of upd_same, ?_⟩
      rw [List.take_of_length_le (by rw [chk_length]; exact Nat.le_refl _), chk_all]
      exact k _ (s1.then hl)
abbrev s_isround : Stmt := top 9
theorem sc_isround : FnScope ["word"] ["word"] (defScope s_isround) := ⟨rfl, rfl, rfl, by decide +kernel, rfl, by decide +kernel, by decide +kernel⟩
theorem c_isround (D : Df K mg "is_round" s_isround) (T : Bt K w mg aB) (F_isred : Fnc P w K mg base "is_reduced" ["word"] 1 spIsRed) : Fnc P w K mg base "is_round" ["word"] 2 spIsRound := by
  have sc := sc_isround
  refine D.ok sc (fun _ _ _ _ _ _ us hl => match us, hl with | [_], _ => rfl) (fun vs H Q E h => ?_) (fun f cdv A outer s H vs Q E hr h => ?_)
  · obtain ⟨u, rfl, _⟩ := h
    rfl
  · obtain ⟨u, rfl, hu, k⟩ := h
    have l16 := line16
    refine ⟨_, (@pss_one _ _ _ (@ps_ret _ _ _ _ (@pe_and _ _ _ _ _ _ _ (@pe_fn _ _ _ _ _ _ _ _ _ _ _ F_isred hr (by decide) rfl (@pa_cons _ _ _ _ _ (pv 0) pa_nil (by rfl)) (by decide) (by rfl) (by rfl)) (@pe_one _ _ _ _ _ (@pe_or _ _ _ _ _ _ _ (@pe_cmpR _ _ _ _ _ _ _ _ op_eq (pv 0) pe_str (nomark _)) (@pe_one _ _ _ _ _ (@pe_cmpR _ _ _ _ _ _ _ _ op_ne (@pe_ix _ _ _ _ _ _ _ ix_str (pv 0) (@pe_un _ _ _ _ _ _ un_neg pe_int) (fun _ _ => rfl)) (@pe_kget _ _ _ _ _ _ _ _ _ T.dB rfl rfl rfl T.mgB (@pe_ix _ _ _ _ _ _ _ ix_str (pv 0) pe_int (fun _ _ => rfl)) (fun _ _ => rfl) (by decide)) (nomark _)))))))), ?_⟩
    refine ⟨_, rfl, u, rfl, hu, fun H1 s1 => ⟨_, rfl, ?_⟩⟩
    by_cases hrd : red u = u
    · refine iteC (decide_eq_true hrd) ?_
      by_cases hne : u = []
      · subst hne
        refine ⟨_, rfl, rfl, _, rfl, iteC (by rw [tx_nil]; simp) ?_⟩
        have q := k _ s1
        rw [rnd_nil] at q
        exact q
      · obtain ⟨x, z, h0, h1, h2, hq⟩ := rnd_ends hne
        obtain ⟨tk, hb⟩ := T.gB x
        refine ⟨_, rfl, rfl, _, rfl, iteD (by rw [← tx_nil]; simpa using fun e => hne (tx_inj e)) ?_⟩
        refine ⟨_, rfl, _, rfl, _, _, _, rfl, rfl, (by rw [toS_length]; omega), h2, _, rfl, _, _, _, rfl, rfl, (by rw [toS_length]; omega), atI_toS (k := 0) rfl h0, toS [x], toS [inv x], tk, rfl, hb, rfl, ?_⟩
        have q := k _ s1
        rw [hq, decide_eq_true hrd, Bool.true_and] at q
        have e : decide (V.str ⟨#[cp z]⟩ = V.str (toS [inv x])) = decide (z = inv x) := decide_eq_decide.mpr (tx_one (x := z) (y := inv x))
        rw [e]
        exact q
    · refine iteD (decide_eq_false hrd) ?_
      have q := k _ s1
      have e : rndB u = false := by unfold rndB; rw [decide_eq_false hrd]; rfl
      rw [e] at q
      exact q
end
end Kx
set_option Elab.async false
set_option linter.all false
set_option maxRecDepth 100000
set_option maxHeartbeats 0
namespace Kx
open PySem PySem.Spec PyProof.Rows L2 Wd
section
variable {P : Program} {w : World} {K : PySem.W.Frag} {mg : Str → Option Value} {base : Heap} {aB : Addr}
abbrev s_rng : Stmt := top 25
theorem sc_rng : FnScope ["thing"] ["thing"] (defScope s_rng) := ⟨rfl, rfl, rfl, by decide +kernel, rfl, by decide +kernel, by decide +kernel⟩
theorem c_rng (D : Df K mg "is_ring" s_rng) (T : Bt K w mg aB) (M : ∃ t, mg "MOST_MANY" = some (.int 6 t)) (M2 : ∃ t, mg "MOST_RING_LETTERS" = some (.int 120 t)) (F_word : Fnc P w K mg base "is_word" ["many", "thing"] 2 (spIsW K)) (F_isround : Fnc P w K mg base "is_round" ["word"] 2 spIsRound) : Fnc P w K mg base "is_ring" ["thing"] 3 (spRing K) := by
  have sc := sc_rng
  refine D.ok sc (fun _ _ _ _ _ _ us hl => match us, hl with | [_], _ => rfl) (fun vs H Q E h => ?_) (fun f cdv A outer s H vs Q E hr h => ?_)
  · obtain ⟨x, rfl, _⟩ := h
    rfl
  · obtain ⟨x, rfl, hx, k⟩ := h
    have l16 := line16
    obtain ⟨tM, mgM⟩ := M
    obtain ⟨tL, mgL⟩ := M2
    refine ⟨_, (@pss_one _ _ _ (@ps_ret _ _ _ _ (@pe_and _ _ _ _ _ _ _ (@pe_fn _ _ _ _ _ _ _ _ _ _ _ F_word hr (by decide) rfl (@pa_cons _ _ _ _ _ (@pe_glob _ _ (.int 6) _ _ rfl mgM ⟨_, rfl⟩ (by decide)) (@pa_cons _ _ _ _ _ (pv 0) pa_nil (by rfl)) (by rfl)) (by decide) (by rfl) (by rfl)) (@pe_and _ _ _ _ _ _ _ (@pe_chain _ _ _ _ _ _ _ _ _ _ _ _ op_le op_le pe_int (@pe_callB _ _ _ _ _ _ _ _ _ call_len_str (by rfl) T.len PySem.boot_len (@pa_cons _ _ _ _ _ (pv 0) pa_nil (by rfl)) (by decide) (by decide) (by rfl) (by rfl)) (@pe_glob _ _ (.int 120) _ _ rfl mgL ⟨_, rfl⟩ (by decide)) (by with_unfolding_all rfl)) (@pe_one _ _ _ _ _ (@pe_fn _ _ _ _ _ _ _ _ _ _ _ F_isround hr (by decide) rfl (@pa_cons _ _ _ _ _ (pv 0) pa_nil (by rfl)) (by decide) (by rfl) (by rfl))))))), ?_⟩
    refine ⟨_, rfl, 6, x, rfl, by decide, by decide, hx, fun H1 s1 => ⟨_, rfl, ?_⟩⟩
    cases hw : wdV 6 x with
    | false =>
      rw [ringV_no hw] at k
      exact iteD rfl (k _ s1)
    | true =>
      obtain ⟨z, e, hz⟩ := wdV_true hx hw
      obtain ⟨u, rfl⟩ := wd_tx hw
      have e : toS u = z := V.str.inj e
      rw [← e, toS_length] at hz
      rw [ringV_tx] at k
      unfold ringB at k
      have hl : (toS u).length ≤ sizeLine := by rw [toS_length]; omega
      refine iteC rfl ⟨_, rfl, toS u, rfl, hl, _, _, rfl, rfl, _, rfl, ?_⟩
      by_cases h1 : 1 ≤ u.length
      · rw [decide_eq_true h1, Bool.true_and] at k
        refine iteC (by rw [toS_length]; exact decide_eq_true (by omega)) ⟨_, _, rfl, rfl, _, rfl, ?_⟩
        by_cases h2 : u.length ≤ 120
        · rw [decide_eq_true h2, Bool.true_and] at k
          exact iteC (by rw [toS_length]; exact decide_eq_true (by omega)) ⟨_, rfl, u, rfl, hz, fun H2 s2 => k _ (s1.trans s2)⟩
        · rw [decide_eq_false h2, Bool.false_and] at k
          exact iteD (by rw [toS_length]; exact decide_eq_false (by omega)) (k _ s1)
      · rw [decide_eq_false h1, Bool.false_and, Bool.false_and] at k
        exact iteD (by rw [toS_length]; exact decide_eq_false (by omega)) ⟨_, rfl, iteD rfl (k _ s1)⟩
abbrev s_rings : Stmt := top 24
theorem sc_rings : FnScope ["thing"] ["thing"] (defScope s_rings) := ⟨rfl, rfl, rfl, by decide +kernel, rfl, by decide +kernel, by decide +kernel⟩
theorem c_rings (D : Df K mg "is_rings" s_rings) (T : Bt K w mg aB) (M : ∃ t, mg "MOST_RINGS" = some (.int 6 t)) (F_ring : Fnc P w K mg base "is_ring" ["thing"] 3 (spRing K)) : Fnc P w K mg base "is_rings" ["thing"] 4 (spRings K) := by
  have sc := sc_rings
  refine D.ok sc (fun _ _ _ _ _ _ us hl => match us, hl with | [_], _ => rfl) (fun vs H Q E h => ?_) (fun f cdv A outer s H vs Q E hr h => ?_)
  · obtain ⟨x, ex, b, rfl, _⟩ := h
    rfl
  · obtain ⟨x, ex, b, rfl, hx, k⟩ := h
    have l16 := line16
    obtain ⟨tM, mgM⟩ := M
    refine ⟨_, (@pss_one _ _ _ (@ps_ret _ _ _ _ (@pe_and _ _ _ _ _ _ _ (@pe_callB _ _ _ _ _ _ _ _ _ (@call_isK _ (K) rfl) (by rfl) T.isinstance b_isinstance (@pa_cons _ _ _ _ _ (pv 0) (@pa_cons _ _ _ _ _ (@pe_bltn _ _ (.ty "tuple") _ _ rfl T.tuple b_tuple rfl (by decide) (by decide)) pa_nil (by rfl)) (by rfl)) (by decide) (by decide) (by rfl) (by rfl)) (@pe_and _ _ _ _ _ _ _ (@pe_cmpR _ _ _ _ _ _ _ _ op_le (@pe_callB _ _ _ _ _ _ _ _ _ call_len_seq (by rfl) T.len PySem.boot_len (@pa_cons _ _ _ _ _ (pv 0) pa_nil (by rfl)) (by decide) (by decide) (by rfl) (by rfl)) (@pe_glob _ _ (.int 6) _ _ rfl mgM ⟨_, rfl⟩ (by decide)) (nomark _)) (@pe_one _ _ _ _ _ (@pe_callB _ _ _ _ _ _ _ _ _ (@call_all_bools _ rfl) (by rfl) T.all b_all (@pa_cons _ _ _ _ _ (@pe_comp _ _ _ _ _ _ _ (["part"]) (["part"]) ([]) _ _ _ _ (@blk_of _ _ _ _ _ _ rfl (by kernel_rfl)) rfl (@pi_tup _ _ _ _ (pv 0)) (fun _ _ _ _ => @pg_name _ _ (0) _ (show (["part"] : List Str).Nodup from by decide +kernel) rfl (Or.inl rfl) (by first | exact .inl rfl | exact .inr rfl | assumption)) (fun _ _ _ _ => pifs_nil) (fun _ _ _ _ => by (exact (@pe_fn _ _ _ _ _ _ _ _ _ _ _ F_ring hr (by decide) rfl (@pa_cons _ _ _ _ _ (pv 0) pa_nil (by rfl)) (by decide) (by rfl) (by rfl)))) (by intro _ ; rfl)) pa_nil (by rfl)) (by decide) (by decide) (by rfl) (by rfl))))))), ?_⟩
    cases hx with
    | oth ty e hn => exact ⟨_, rfl, _, _, _, _, rfl, ty, e, false, rfl, iteD rfl (k _ (Same.refl _))⟩
    | @tup a xs h hn hx hl =>
      refine ⟨_, rfl, _, _, _, _, rfl, .tup h, kit_tupT, true, rfl, iteC rfl ⟨_, rfl, a, xs, rfl, .inr (SqT.of h), _, _, rfl, rfl, _, rfl, ?_⟩⟩
      by_cases h6 : xs.length ≤ 6
      · refine iteC (decide_eq_true (by omega)) ⟨_, rfl, a, rfl, ⟨xs, SqT.of h⟩, ?_⟩
        refine comp_tup (xs := xs) (own := ["part"]) (cap := []) (fun i ys σ H' => ∃ v : Option V, σ = [v] ∧ ys = ((xs.take i).map ringV).map V.bl ∧ Same H H') ⟨none, rfl, rfl, Same.refl _⟩ (fun i ys σ H' hi ⟨v, _, e, _⟩ => ?_) (by omega) (fun i ys σ H' ⟨_, _, _, s1⟩ => SqT.of (s1 _ _ h)) ?_ ?_
        · rw [e, List.length_map, List.length_map, List.length_take]; omega
        · rintro i ys σ H1 x N hxi ⟨v, rfl, rfl, s1⟩ hN
          refine ⟨_, rfl, x, rfl, (hx x (List.mem_of_getElem? hxi)).th.same s1, fun H2 s2 => hN _ _ _ ⟨_, rfl, ?_, s1.trans s2⟩⟩
          rw [take_map ringV hxi, List.map_append]
          rfl
        · rintro ys σ H1 l ⟨v, rfl, rfl, s1⟩ hl
          refine ⟨l, _, rfl, SqL.of upd_same, ?_⟩
          rw [List.take_of_length_le (Nat.le_refl _), List.all_map]
          rw [decide_eq_true h6, Bool.true_and] at k
          exact k _ (s1.then hl)
      · rw [decide_eq_false h6, Bool.false_and] at k
        exact iteD (decide_eq_false (by omega)) (k _ (Same.refl _))
end
end Kx
set_option Elab.async false
set_option linter.all false
set_option maxRecDepth 100000
set_option maxHeartbeats 0
namespace Kx
open PySem PySem.Spec PyProof.Rows L2 Wd
def spSurfD : Sp := fun vs H Q _ => ∃ (d : Addr) (n : Nat), vs = [.ref d, .int (n : Int)] ∧ Fd H d ∧ 1 ≤ n ∧ n ≤ 6 ∧ ∀ (u : List L) (H' : Hp), RowN n u → (∀ x : L, x.val % 6 < n → x ∈ u) → Fd H' d → SameB d H H' → Q (tx u) H'
theorem erase_perm {α : Type} : ∀ {xs : List α} {k : Nat} {x : α}, xs[k]? = some x → xs.Perm (x :: xs.eraseIdx k)
  | [], k, x, h => by simp at h
  | y :: r, 0, x, h => by simp at h; subst h; exact List.Perm.refl _
  | y :: r, k + 1, x, h => by
    have := erase_perm (xs := r) (k := k) (x := x) (by simpa using h)
    exact (List.Perm.cons y this).trans (List.Perm.swap _ _ _)
theorem fd_updS {H : Hp} {d l : Addr} {z : Str} {o : HO} {xs : List V} (F : Fd H d) (h : H l = some (.lst xs)) (n : l ≠ d) (hx : V.str z ∈ xs) : Fd (L2.upd H l o) d := by
  obtain ⟨c, i, ll, t, ns, h1, h2, h3, h4⟩ := F.ex
  have hc : c ≠ l := fun e => by
    subst e
    rw [h2] at h
    have h := HO.lst.inj (Option.some.inj h)
    rw [← h] at hx
    obtain ⟨k, _, e⟩ := List.mem_map.mp hx
    cases e
  exact ⟨c, i, ll, t, ns, by rw [upd_ne (fun e => n e.symm)]; exact h1, by rw [upd_ne hc]; exact h2, h3, h4⟩
theorem signs_ones (W : List L) : L2.signs (toS W) = ones W := by
  unfold L2.signs ones
  rw [toS_cps, List.map_map]
  rfl
theorem map_erase {α β : Type} (g : α → β) : ∀ (xs : List α) (k : Nat), (xs.map g).eraseIdx k = (xs.eraseIdx k).map g
  | [], k => by simp
  | x :: r, 0 => by simp
  | x :: r, k + 1 => by
    rw [List.map_cons, List.eraseIdx_cons_succ, List.eraseIdx_cons_succ, List.map_cons, map_erase g r k]
theorem ones_erase (W : List L) (k : Nat) : (ones W).eraseIdx k = ones (W.eraseIdx k) := map_erase _ W k
section
variable {P : Program} {w : World} {K : PySem.W.Frag} {mg : Str → Option Value} {base : Heap} {aB : Addr}
abbrev s_surf : Stmt := top 30
theorem sc_surf : FnScope ["_law_feed_here", "_law_many", "_law_left", "_law_found", "_law_k"] ["_law_feed_here", "_law_many"] (defScope s_surf) := ⟨rfl, rfl, rfl, by decide +kernel, rfl, by decide +kernel, by decide +kernel⟩
theorem c_surf (D : Df K mg "_law_surface" s_surf) (T : Bt K w mg aB) (F_draw : Fnc P w K mg base "_law_draw" ["_law_feed_here", "_law_many"] 1 spDraw) : Fnc P w K mg base "_law_surface" ["_law_feed_here", "_law_many"] 2 spSurfD := by
  have sc := sc_surf
  refine D.ok sc (fun _ _ _ _ _ _ us hl => match us, hl with | [_, _], _ => rfl) (fun vs H Q E h => ?_) (fun f cdv A outer s H vs Q E hr h => ?_)
  · obtain ⟨d, n, rfl, _⟩ := h
    rfl
  · obtain ⟨d, n, rfl, F, h1, h6, k⟩ := h
    have l16 := line16
    refine ⟨_, (@pss_cons _ _ _ _ _ (@ps_set _ _ (2) _ _ _ _ sc.nd rfl (Or.inl rfl) (@pe_callTy _ _ _ _ _ _ _ _ _ (@call_list_signs _ rfl) (by rfl) T.list b_list (@pa_cons _ _ _ _ _ (@pe_op _ _ _ _ _ _ _ _ op_add_str (@pe_slice _ _ _ _ _ _ _ _ _ _ sl_str pe_str po_none (@po_some _ _ _ (pv 1))) (@pe_slice _ _ _ _ _ _ _ _ _ _ sl_str pe_str po_none (@po_some _ _ _ (pv 1)))) pa_nil (by rfl)) (by decide) (by decide) (by rfl) (by rfl)) (by rfl) (by first | exact .inl rfl | exact .inr rfl | assumption)) (@pss_cons _ _ _ _ _ (@ps_set _ _ (3) _ _ _ _ sc.nd rfl (Or.inl rfl) pe_str (by rfl) (by first | exact .inl rfl | exact .inr rfl | assumption)) (@pss_cons _ _ _ _ _ (@ps_for _ _ _ _ _ _ _ _ PassesOwn.never rfl (@pi_range1 _ _ _ _ _ _ rfl T.range (@pa_cons _ _ _ _ _ (@pe_op _ _ _ _ _ _ _ _ op_mul pe_int (pv 1)) pa_nil (by rfl)) (by rfl)) (@pg_name _ _ (4) _ sc.nd rfl (Or.inl rfl) (by first | exact .inl rfl | exact .inr rfl | assumption)) (@pss_one _ _ _ (@ps_set _ _ (3) _ _ _ _ sc.nd rfl (Or.inl rfl) (@pe_op _ _ _ _ _ _ _ _ op_add_str (pv 3) (@pe_bm _ _ _ _ _ _ _ _ _ _ _ _ PySem.F.plainAttrs_list PySem.F.slot_list_pop PySem.F.type_list_pop mt_popAt (pv 2) (@pa_cons _ _ _ _ _ (@pe_fn _ _ _ _ _ _ _ _ _ _ _ F_draw hr (by decide) rfl (@pa_cons _ _ _ _ _ (pv 0) (@pa_cons _ _ _ _ _ (@pe_callB _ _ _ _ _ _ _ _ _ call_len_seq (by rfl) T.len PySem.boot_len (@pa_cons _ _ _ _ _ (pv 2) pa_nil (by rfl)) (by decide) (by decide) (by rfl) (by rfl)) pa_nil (by rfl)) (by rfl)) (by decide) (by rfl) (by rfl)) pa_nil (by rfl)) (by rfl) (by rfl) (by rfl) (by rfl) (by rfl))) (by rfl) (by first | exact .inl rfl | exact .inr rfl | assumption))) (by intro _ ; rfl)) (@pss_one _ _ _ (@ps_ret _ _ _ _ (pv 3)))))), ?_⟩
    refine ⟨_, rfl, _, rfl, _, rfl, (by rw [len_sm]; omega), _, rfl, _, rfl, _, rfl, (by rw [len_bg]; omega), _, _, rfl, rfl, ?_, ?_⟩
    · have q1 := Txt.slice_le ("abcdef" : Str) none (some (n : Int))
      have q2 := Txt.slice_le ("ABCDEF" : Str) none (some (n : Int))
      rw [len_sm] at q1
      rw [len_bg] at q2
      omega
    rw [slice_sg (by omega)]
    have hsl : (sg (n : Int)).length = 2 * n := by rw [sg_length (by omega) (by omega)]; omega
    refine ⟨_, rfl, (by rw [toS_length, hsl]; omega), fun l hl => ?_⟩
    rw [signs_ones]
    have nl := F.ne hl
    refine ⟨_, rfl, _, _, rfl, rfl, (Or.inl ⟨by decide, by decide⟩), ?_⟩
    refine ⟨_, rfl, by omega, by omega, ?_⟩
    rw [show ((2 : Int) * (n : Int)).toNat = 2 * n by omega]
    refine for_range (lo := 0) (n := 2 * n) (fun i σ H' => ∃ (v : Option V) (W left : List L), σ = [some (.ref d), some (.int (n : Int)), some (.ref l), some (tx W), v] ∧ H' l = some (.lst (ones left)) ∧ (W ++ left).Perm (sg (n : Int)) ∧ W.length = i ∧ Fd H' d ∧ SameB d H H') ⟨none, [], sg (n : Int), (by rw [tx_nil]; rfl), upd_same, List.Perm.refl _, rfl, F.new hl, (Same.new hl).b⟩ ?_ ?_
    · rintro i σ H1 hi ⟨v, W, left, rfl, f1, pW, hW, F1, sb1⟩
      have hll : left.length = 2 * n - i := by
        have := pW.length_eq
        rw [List.length_append, hW, hsl] at this
        omega
      refine ⟨_, rfl, _, rfl, .inl ⟨rfl, _, SqL.of f1⟩, _, rfl, _, rfl, l, _, rfl, .inl (SqL.of f1), d, _, rfl, F1, by rw [ones_length]; omega, by rw [ones_length]; omega, fun r H2 r0 r1 F2 sb2 => ?_⟩
      rw [ones_length] at r1
      have f2 := sb2 _ _ nl f1
      have hrk : r.toNat < left.length := by omega
      have gy : left[r.toNat]? = some left[r.toNat] := List.getElem?_eq_getElem hrk
      generalize left[r.toNat] = y at gy
      refine ⟨l, _, r, r.toNat, tx [y], rfl, rfl, f2, by omega, by omega, (ixN_seq (by unfold ixN; rw [if_pos r0, if_pos (by rw [ones_length]; omega)])).1, (by unfold ones; rw [List.getElem?_map, gy]; rfl), ?_⟩
      rw [ones_erase]
      refine ⟨_, _, rfl, rfl, (by rw [toS_length, toS_length]; show _ + 1 ≤ _; omega), ?_⟩
      rw [toS_append]
      have hy : V.str (toS [y]) ∈ ones left := by
        unfold ones
        exact List.mem_map.mpr ⟨y, List.mem_of_getElem? gy, rfl⟩
      refine ⟨_, W ++ [y], left.eraseIdx r.toNat, rfl, upd_same, ?_, by rw [List.length_append, hW]; rfl, fd_updS F2 f2 nl hy, fun b o n' e => ?_⟩
      · refine List.Perm.trans ?_ pW
        rw [List.append_assoc]
        exact List.Perm.append_left W (erase_perm gy).symm
      · rw [upd_ne (ne_of_none e hl)]
        exact sb2 _ _ n' (sb1 _ _ n' e)
    · rintro σ H1 ⟨v, W, left, rfl, f1, pW, hW, F1, sb1⟩
      have hll : left.length = 0 := by
        have := pW.length_eq
        rw [List.length_append, hW, hsl] at this
        omega
      have : left = [] := List.eq_nil_of_length_eq_zero hll
      subst this
      rw [List.append_nil] at pW
      have pW' : W.Perm (([0, 1, 2, 3, 4, 5] : List L).take n ++ ([6, 7, 8, 9, 10, 11] : List L).take n) := by
        unfold sg at pW
        rwa [Int.toNat_natCast] at pW
      refine ⟨_, rfl, k W _ (row_perm h1 h6 pW') (fun x hx => pW'.mem_iff.mpr (sg_all h6 hx)) F1 sb1⟩
end
end Kx
set_option Elab.async false
set_option linter.all false
set_option maxRecDepth 100000
set_option maxHeartbeats 0
namespace Kx
open PySem PySem.Spec PyProof.Rows L2 Wd
section
variable {P : Program} {w : World} {K : PySem.W.Frag} {mg : Str → Option Value} {base : Heap} {aB : Addr}
abbrev s_whole : Stmt := top 14
theorem sc_whole : FnScope ["thing"] ["thing"] (defScope s_whole) := ⟨rfl, rfl, rfl, by decide +kernel, rfl, by decide +kernel, by decide +kernel⟩
theorem c_whole (D : Df K mg "is_whole" s_whole) (T : Bt K w mg aB) (Tbool : mg "bool" = none) : Fnc P w K mg base "is_whole" ["thing"] 1 (spWhole K) := by
  have sc := sc_whole
  refine D.ok sc (fun _ _ _ _ _ _ us hl => match us, hl with | [_], _ => rfl) (fun vs H Q E h => ?_) (fun f cdv A outer s H vs Q E hr h => ?_)
  · obtain ⟨x, rfl, _⟩ := h
    rfl
  · obtain ⟨x, rfl, ⟨ty, e1, e2, hx⟩, k⟩ := h
    rw [hx] at k
    refine ⟨_, (@pss_one _ _ _ (@ps_ret _ _ _ _ (@pe_and _ _ _ _ _ _ _ (@pe_callB _ _ _ _ _ _ _ _ _ (@call_isK _ (K) rfl) (by rfl) T.isinstance b_isinstance (@pa_cons _ _ _ _ _ (pv 0) (@pa_cons _ _ _ _ _ (@pe_bltn _ _ (.ty "int") _ _ rfl T.int b_int rfl (by decide) (by decide)) pa_nil (by rfl)) (by rfl)) (by decide) (by decide) (by rfl) (by rfl)) (@pe_one _ _ _ _ _ (@pe_not _ _ _ _ (@pe_callB _ _ _ _ _ _ _ _ _ (@call_isK _ (K) rfl) (by rfl) T.isinstance b_isinstance (@pa_cons _ _ _ _ _ (pv 0) (@pa_cons _ _ _ _ _ (@pe_bltn _ _ (.ty "bool") _ _ rfl Tbool b_bool rfl (by decide) (by decide)) pa_nil (by rfl)) (by rfl)) (by decide) (by decide) (by rfl) (by rfl))))))), ?_⟩
    refine ⟨_, rfl, _, _, _, _, rfl, ty, e1, _, rfl, ?_⟩
    rename_i b1 b2
    cases b1 with
    | false => exact iteF k
    | true => exact iteT ⟨_, rfl, _, _, _, _, rfl, ty, e2, _, rfl, k⟩
abbrev s_cap : Stmt := top 19
theorem sc_cap : FnScope ["count", "thing"] ["count", "thing"] (defScope s_cap) := ⟨rfl, rfl, rfl, by decide +kernel, rfl, by decide +kernel, by decide +kernel⟩
theorem c_cap (D : Df K mg "is_cap" s_cap) (T : Bt K w mg aB) (mgT : ∃ t, mg "MOST_TIMES" = some (.int 10 t)) (F_whole : Fnc P w K mg base "is_whole" ["thing"] 1 (spWhole K)) : Fnc P w K mg base "is_cap" ["count", "thing"] 2 (spIsCap K) := by
  have sc := sc_cap
  refine D.ok sc (fun _ _ _ _ _ _ us hl => match us, hl with | [_, _], _ => rfl) (fun vs H Q E h => ?_) (fun f cdv A outer s H vs Q E hr h => ?_)
  · obtain ⟨n, x, c, rfl, _⟩ := h
    rfl
  · obtain ⟨n, x, c, rfl, hx, k⟩ := h
    have l16 := line16
    obtain ⟨tT, mgT⟩ := mgT
    refine ⟨_, (@pss_cons _ _ _ _ _ (@ps_if _ _ _ _ _ _ _ _ (@PW.pt _ _ _ (@pw_or _ _ _ _ _ _ _ (@pt_not _ _ _ _ (@pt_truth _ _ _ (@pe_callB _ _ _ _ _ _ _ _ _ (@call_isK _ (K) rfl) (by rfl) T.isinstance b_isinstance (@pa_cons _ _ _ _ _ (pv 1) (@pa_cons _ _ _ _ _ (@pe_bltn _ _ (.ty "tuple") _ _ rfl T.tuple b_tuple rfl (by decide) (by decide)) pa_nil (by rfl)) (by rfl)) (by decide) (by decide) (by rfl) (by rfl)) (fun _ => rfl))) (@pw_or _ _ _ _ _ _ _ (@pt_cmpR _ _ _ _ _ _ _ _ op_ne (@pe_callB _ _ _ _ _ _ _ _ _ call_len_seq (by rfl) T.len PySem.boot_len (@pa_cons _ _ _ _ _ (pv 1) pa_nil (by rfl)) (by decide) (by decide) (by rfl) (by rfl)) pe_int (nomark _)) (@pw_or1 _ _ _ _ (@pt_not _ _ _ _ (@pt_truth _ _ _ (@pe_callB _ _ _ _ _ _ _ _ _ (@call_all_bools _ rfl) (by rfl) T.all b_all (@pa_cons _ _ _ _ _ (@pe_comp _ _ _ _ _ _ _ (["part"]) (["part"]) ([]) _ _ _ _ (@blk_of _ _ _ _ _ _ rfl (by kernel_rfl)) rfl (@pi_tup _ _ _ _ (pv 1)) (fun _ _ _ _ => @pg_name _ _ (0) _ (show (["part"] : List Str).Nodup from by decide +kernel) rfl (Or.inl rfl) (by first | exact .inl rfl | exact .inr rfl | assumption)) (fun _ _ _ _ => pifs_nil) (fun _ _ _ _ => by (exact (@pe_fn _ _ _ _ _ _ _ _ _ _ _ F_whole hr (by decide) rfl (@pa_cons _ _ _ _ _ (pv 0) pa_nil (by rfl)) (by decide) (by rfl) (by rfl)))) (by intro _ ; rfl)) pa_nil (by rfl)) (by decide) (by decide) (by rfl) (by rfl)) (fun _ => rfl))))))) (@pss_one _ _ _ (@ps_ret _ _ _ _ pe_bl)) pss_nil) (@pss_one _ _ _ (@ps_ret _ _ _ _ (@pe_and _ _ _ _ _ _ _ (@pe_chain _ _ _ _ _ _ _ _ _ _ _ _ op_le op_lt pe_int (@pe_ix _ _ _ _ _ _ _ ix_tup (pv 1) pe_int (fun _ _ => rfl)) (pv 0) (by with_unfolding_all rfl)) (@pe_one _ _ _ _ _ (@pe_chain _ _ _ _ _ _ _ _ _ _ _ _ op_le op_le pe_int (@pe_ix _ _ _ _ _ _ _ ix_tup (pv 1) pe_int (fun _ _ => rfl)) (@pe_glob _ _ (.int 10) _ _ rfl mgT ⟨_, rfl⟩ (by decide)) (by with_unfolding_all rfl))))))), ?_⟩
    cases hx with
    | oth ty e => exact ⟨_, rfl, _, _, _, _, rfl, ty, e, _, rfl, iteC rfl (k _ (Same.refl _))⟩
    | @tup a xs h hx hl ne =>
      refine ⟨_, rfl, _, _, _, _, rfl, .tup h, kit_tupT, _, rfl, iteD rfl ⟨_, rfl, a, xs, rfl, .inr (SqT.of h), rfl, _, rfl, ?_⟩⟩
      by_cases hn : xs.length = 2
      · refine iteD (by rw [hn]; rfl) ?_
        refine ⟨_, rfl, a, rfl, ⟨xs, SqT.of h⟩, ?_⟩
        refine comp_tup (xs := xs) (own := ["part"]) (cap := []) (fun i ys σ H' => ∃ v : Option V, σ = [v] ∧ ys = (((xs : List V).take i).map whV).map V.bl ∧ Same H H') ⟨none, rfl, rfl, Same.refl _⟩ (fun i ys σ H' hi ⟨v, _, e, _⟩ => ?_) (by omega) (fun i ys σ H' ⟨_, _, _, s1⟩ => SqT.of (s1 _ _ h)) ?_ ?_
        · rw [e, List.length_map, List.length_map, List.length_take]; omega
        · rintro i ys σ H1 y N hyi ⟨v, rfl, rfl, s1⟩ hN
          have hy := (hx y (List.mem_of_getElem? hyi)).same s1
          refine ⟨_, rfl, y, rfl, hy, hN _ _ _ ⟨_, rfl, by rw [take_map whV hyi, List.map_append]; rfl, s1⟩⟩
        · rintro ys σ H1 l ⟨v, rfl, rfl, s1⟩ hl'
          refine ⟨l, _, rfl, SqL.of upd_same, ?_⟩
          rw [List.take_of_length_le (Nat.le_refl _), List.all_map]
          have al : xs.all whV = false := by
            cases e : xs.all whV with
            | false => rfl
            | true => exact absurd ⟨hn, e⟩ ne
          have al : xs.all (id ∘ whV) = false := al
          rw [al]
          exact ⟨_, rfl, iteT (k _ (s1.then hl'))⟩
      · exact iteC (by rw [decide_eq_false fun e => hn (by have := V.int.inj e; omega)]; rfl) (k _ (Same.refl _))
    | @cap a i j h =>
      have hx : ∀ y ∈ [V.int i, V.int j], Wh K H y := fun y hy => by
        rcases List.mem_cons.mp hy with rfl | hy
        · exact wh_dt (.int i)
        · rw [List.mem_singleton] at hy
          subst hy
          exact wh_dt (.int j)
      refine ⟨_, rfl, _, _, _, _, rfl, .tup h, kit_tupT, _, rfl, iteD rfl ⟨_, rfl, a, _, rfl, .inr (SqT.of h), rfl, _, rfl, ?_⟩⟩
      · refine iteD rfl ?_
        refine ⟨_, rfl, a, rfl, ⟨[V.int i, V.int j], SqT.of h⟩, ?_⟩
        refine comp_tup (xs := [V.int i, V.int j]) (own := ["part"]) (cap := []) (fun m ys σ H' => ∃ v : Option V, σ = [v] ∧ ys = ((([V.int i, V.int j] : List V).take m).map whV).map V.bl ∧ Same H H') ⟨none, rfl, rfl, Same.refl _⟩ (fun m ys σ H' hi ⟨v, _, e, _⟩ => ?_) (by show 2 ≤ sizeLine; omega) (fun m ys σ H' ⟨_, _, _, s1⟩ => SqT.of (s1 _ _ h)) ?_ ?_
        · rw [e, List.length_map, List.length_map, List.length_take]; omega
        · rintro m ys σ H1 y N hyi ⟨v, rfl, rfl, s1⟩ hN
          have hy := (hx y (List.mem_of_getElem? hyi)).same s1
          refine ⟨_, rfl, y, rfl, hy, hN _ _ _ ⟨_, rfl, by rw [take_map whV hyi, List.map_append]; rfl, s1⟩⟩
        · rintro ys σ H1 l ⟨v, rfl, rfl, s1⟩ hl'
          refine ⟨l, _, rfl, SqL.of upd_same, ?_⟩
          rw [List.take_of_length_le (Nat.le_refl _), List.all_map]
          refine ⟨_, rfl, iteF ?_⟩
          have s2 : Same H (upd H1 l (.lst (([V.int i, V.int j].map whV).map V.bl))) := s1.then hl'
          have h' := s2 _ _ h
          have k := k _ s2
          generalize upd H1 l (.lst (([V.int i, V.int j].map whV).map V.bl)) = H2 at s2 h' k ⊢
          have k : Q (.bl (decide (0 ≤ i) && decide (i < n) && (decide (1 ≤ j) && decide (j ≤ 10)))) H2 := k
          refine ⟨_, rfl, a, _, _, _, rfl, rfl, SqT.of h', rfl, _, _, rfl, rfl, _, rfl, ?_⟩
          by_cases c1 : 0 ≤ i
          · rw [decide_eq_true c1, Bool.true_and] at k
            refine iteC (decide_eq_true c1) ⟨_, rfl, _, _, rfl, rfl, _, rfl, ?_⟩
            by_cases c2 : i < n
            · rw [decide_eq_true c2, Bool.true_and] at k
              refine iteC (decide_eq_true c2) ?_
              refine ⟨_, rfl, a, _, _, _, rfl, rfl, SqT.of h', rfl, _, _, rfl, rfl, _, rfl, ?_⟩
              by_cases c3 : 1 ≤ j
              · rw [decide_eq_true c3, Bool.true_and] at k
                exact iteC (decide_eq_true c3) ⟨_, _, rfl, rfl, k⟩
              · rw [decide_eq_false c3, Bool.false_and] at k
                exact iteD (decide_eq_false c3) k
            · rw [decide_eq_false c2, Bool.false_and] at k
              exact iteD (decide_eq_false c2) k
          · rw [decide_eq_false c1, Bool.false_and, Bool.false_and] at k
            exact iteD (decide_eq_false c1) ⟨_, rfl, iteF k⟩
end
end Kx
set_option Elab.async false
set_option linter.all false
set_option maxRecDepth 100000
set_option maxHeartbeats 0
namespace Kx
open PySem PySem.Spec PyProof.Rows L2 Wd
section
variable {P : Program} {w : World} {K : PySem.W.Frag} {mg : Str → Option Value} {base : Heap} {aB : Addr}
abbrev s_caps : Stmt := top 18
theorem sc_caps : FnScope ["surface", "thing", "count"] ["surface", "thing"] (defScope s_caps) := ⟨rfl, rfl, rfl, by decide +kernel, rfl, by decide +kernel, by decide +kernel⟩
theorem c_caps (D : Df K mg "is_caps" s_caps) (T : Bt K w mg aB) (mgC : ∃ t, mg "MOST_CAPS" = some (.int 6 t)) (F_holes : Fnc P w K mg base "holes" ["surface"] 3 spHoles) (F_cap : Fnc P w K mg base "is_cap" ["count", "thing"] 2 (spIsCap K)) : Fnc P w K mg base "is_caps" ["surface", "thing"] 4 (spIsCaps K) := by
  have sc := sc_caps
  refine D.ok sc (fun _ _ _ _ _ _ us hl => match us, hl with | [_, _], _ => rfl) (fun vs H Q E h => ?_) (fun f cdv A outer s H vs Q E hr h => ?_)
  · obtain ⟨u, x, c, rfl, _⟩ := h
    rfl
  · obtain ⟨u, x, c, rfl, U, hx, k⟩ := h
    have l16 := line16
    obtain ⟨tC, mgC⟩ := mgC
    refine ⟨_, (@pss_cons _ _ _ _ _ (@ps_if _ _ _ _ _ _ _ _ (@PW.pt _ _ _ (@pw_or _ _ _ _ _ _ _ (@pt_not _ _ _ _ (@pt_truth _ _ _ (@pe_callB _ _ _ _ _ _ _ _ _ (@call_isK _ (K) rfl) (by rfl) T.isinstance b_isinstance (@pa_cons _ _ _ _ _ (pv 1) (@pa_cons _ _ _ _ _ (@pe_bltn _ _ (.ty "tuple") _ _ rfl T.tuple b_tuple rfl (by decide) (by decide)) pa_nil (by rfl)) (by rfl)) (by decide) (by decide) (by rfl) (by rfl)) (fun _ => rfl))) (@pw_or1 _ _ _ _ (@pt_cmpR _ _ _ _ _ _ _ _ op_gt (@pe_callB _ _ _ _ _ _ _ _ _ call_len_seq (by rfl) T.len PySem.boot_len (@pa_cons _ _ _ _ _ (pv 1) pa_nil (by rfl)) (by decide) (by decide) (by rfl) (by rfl)) (@pe_glob _ _ (.int 6) _ _ rfl mgC ⟨_, rfl⟩ (by decide)) (nomark _))))) (@pss_one _ _ _ (@ps_ret _ _ _ _ pe_bl)) pss_nil) (@pss_cons _ _ _ _ _ (@ps_set _ _ (2) _ _ _ _ sc.nd rfl (Or.inr rfl) (@pe_callB _ _ _ _ _ _ _ _ _ call_len_seq (by rfl) T.len PySem.boot_len (@pa_cons _ _ _ _ _ (@pe_fn _ _ _ _ _ _ _ _ _ _ _ F_holes hr (by decide) rfl (@pa_cons _ _ _ _ _ (pv 0) pa_nil (by rfl)) (by decide) (by rfl) (by rfl)) pa_nil (by rfl)) (by decide) (by decide) (by rfl) (by rfl)) (by rfl) (by first | exact .inl rfl | exact .inr rfl | assumption)) (@pss_cons _ _ _ _ _ (@ps_if _ _ _ _ _ _ _ _ (@pt_not _ _ _ _ (@pt_truth _ _ _ (@pe_callB _ _ _ _ _ _ _ _ _ (@call_all_bools _ rfl) (by rfl) T.all b_all (@pa_cons _ _ _ _ _ (@pe_comp _ _ _ _ _ _ _ (["part", "count"]) (["part"]) ([2]) _ _ _ _ (@blk_of _ _ _ _ _ _ rfl (by kernel_rfl)) rfl (@pi_tup _ _ _ _ (pv 1)) (fun _ _ _ _ => @pg_name _ _ (0) _ (show (["part", "count"] : List Str).Nodup from by decide +kernel) rfl (Or.inl rfl) (by first | exact .inl rfl | exact .inr rfl | assumption)) (fun _ _ _ _ => pifs_nil) (fun _ _ _ _ => by (exact (@pe_fn _ _ _ _ _ _ _ _ _ _ _ F_cap hr (by decide) rfl (@pa_cons _ _ _ _ _ (pv 1) (@pa_cons _ _ _ _ _ (pv 0) pa_nil (by rfl)) (by rfl)) (by decide) (by rfl) (by rfl)))) (by intro _ ; rfl)) pa_nil (by rfl)) (by decide) (by decide) (by rfl) (by rfl)) (fun _ => rfl))) (@pss_one _ _ _ (@ps_ret _ _ _ _ pe_bl)) pss_nil) (@pss_one _ _ _ (@ps_ret _ _ _ _ (@pe_callB _ _ _ _ _ _ _ _ _ (@call_all_bools _ rfl) (by rfl) T.all b_all (@pa_cons _ _ _ _ _ (@pe_comp _ _ _ _ _ _ _ (["one", "other"]) (["one", "other"]) ([]) _ _ _ _ (@blk_of _ _ _ _ _ _ rfl (by kernel_rfl)) rfl (@pi_zipTT _ _ rfl _ _ _ _ _ _ _ _ rfl T.zip b_zip (@pa_cons _ _ _ _ _ (pv 1) (@pa_cons _ _ _ _ _ (@pe_slice _ _ _ _ _ _ _ _ _ _ sl_tupU (pv 1) (@po_some _ _ _ pe_int) po_none) pa_nil (by rfl)) (by rfl)) (by rfl) (by rfl)) (fun _ _ _ _ => @pg_tupK _ (K) _ _ _ (2) _ rfl rfl (@pgs_cons _ _ _ _ _ (@pg_name _ _ (0) _ (show (["one", "other"] : List Str).Nodup from by decide +kernel) rfl (Or.inl rfl) (by first | exact .inl rfl | exact .inr rfl | assumption)) (@pgs_cons _ _ _ _ _ (@pg_name _ _ (1) _ (show (["one", "other"] : List Str).Nodup from by decide +kernel) rfl (Or.inl rfl) (by first | exact .inl rfl | exact .inr rfl | assumption)) pgs_nil (by rfl)) (by rfl)) (by rfl) (by rfl)) (fun _ _ _ _ => pifs_nil) (fun _ _ _ _ => by (exact @pe_cmpR _ _ _ _ _ _ _ _ op_lt (by (exact (@pe_ix _ _ _ _ _ _ _ (@ix_tupK _ (K) rfl) (pv 0) pe_int (fun _ _ => rfl)))) (by (exact (@pe_ix _ _ _ _ _ _ _ (@ix_tupK _ (K) rfl) (pv 1) pe_int (fun _ _ => rfl)))) (nomark _))) (by intro _ ; rfl)) pa_nil (by rfl)) (by decide) (by decide) (by rfl) (by rfl))))))), ?_⟩
    cases hx with
    | oth ty e => exact ⟨_, rfl, _, _, _, _, rfl, ty, e, _, rfl, iteC rfl (k _ (Same.refl _))⟩
    | @tup a xs cs h hx hl hc =>
      refine ⟨_, rfl, _, _, _, _, rfl, .tup h, kit_tupT, _, rfl, iteD rfl ⟨_, rfl, a, xs, rfl, .inr (SqT.of h), _, _, rfl, rfl, _, rfl, ?_⟩⟩
      by_cases h6 : xs.length ≤ 6
      · refine iteD (decide_eq_false (by omega)) ?_
        have k : ∀ H', Same H H' → Q (.bl (cs.all (okCap (hol u).length) && ris cs)) H' := fun H' s' => by
          have this : Q (.bl (decide (cs.length ≤ 6) && cs.all (okCap (hol u).length) && ris cs)) H' := k H' s'
          rwa [decide_eq_true (by omega : cs.length ≤ 6), Bool.true_and] at this
        refine ⟨_, rfl, u, rfl, U, fun l H1 hl0 hl1 s1 => ?_⟩
        refine ⟨l, _, rfl, .inl (SqL.of hl1), ?_⟩
        rw [List.length_map]
        refine ⟨_, rfl, a, rfl, ⟨xs, SqT.of (s1 _ _ h)⟩, ?_⟩
        refine comp_tup (xs := xs) (own := ["part"]) (cap := [2]) (fun i ys σ H' => ∃ v : Option V, σ = [v, some (.int ((hol u).length : Int))] ∧ ys = ((cs.take i).map (okCap (hol u).length)).map V.bl ∧ Same H H') ⟨none, rfl, rfl, s1⟩ (fun i ys σ H' hi ⟨v, _, e, _⟩ => ?_) (by omega) (fun i ys σ H' ⟨_, _, _, s1⟩ => SqT.of (s1 _ _ h)) ?_ ?_
        · rw [e, List.length_map, List.length_map, List.length_take]; omega
        · rintro i ys σ H2 y N hyi ⟨v, rfl, rfl, s2⟩ hN
          obtain ⟨c, e, hcp⟩ := hx i y hyi
          refine ⟨_, rfl, _, rfl, (hol u).length, y, c, rfl, hcp.same s2, fun H3 s3 => hN _ _ _ ⟨_, rfl, by rw [take_map (okCap _) e, List.map_append]; rfl, s2.trans s3⟩⟩
        rintro ys σ H2 q ⟨v, rfl, rfl, s2⟩ hq
        rw [← hc, List.take_length]
        refine ⟨q, _, rfl, SqL.of upd_same, ?_⟩
        have s3 := s2.then (o := .lst ((cs.map (okCap (hol u).length)).map V.bl)) hq
        generalize upd H2 q (.lst ((cs.map (okCap (hol u).length)).map V.bl)) = H3 at s3 ⊢
        rw [List.all_map]
        cases al : cs.all (okCap (hol u).length) with
        | false =>
          have al' : cs.all (id ∘ okCap (hol u).length) = false := al
          rw [al']
          rw [al] at k
          exact ⟨_, rfl, iteT (k _ s3)⟩
        | true =>
          have al' : cs.all (id ∘ okCap (hol u).length) = true := al
          rw [al']
          rw [al, Bool.true_and] at k
          refine ⟨_, rfl, iteF ?_⟩
          have h3 := s3 _ _ h
          refine ⟨_, rfl, _, rfl, _, rfl, a, xs, rfl, h3, fun p H4 s4 hp => ?_⟩
          have ec : cutV xs (some 1) none = xs.tail := by
            unfold cutV
            have e1 : HT.sIx xs.length 0 (some 1) = min 1 xs.length := HT.sIx_nat _ _ 1
            have e2 : HT.sIx xs.length xs.length none = xs.length := rfl
            rw [e1, e2, List.take_of_length_le (by rw [List.length_drop]; exact Nat.le_refl _)]
            cases xs with
            | nil => rfl
            | cons y r => simp
          have hp : H4 p = some (.tup xs.tail) := by rw [← ec]; exact hp
          have h4 := s4 _ _ h3
          have s4 := s3.trans s4
          have caps : ∀ (i : Nat) (x : V), xs[i]? = some x → ∃ (b : Addr) (v w : Int), x = .ref b ∧ (cs.map fst)[i]? = some v ∧ H4 b = some (.tup [.int v, .int w]) := fun i x e => by
            obtain ⟨c, e1, hcp⟩ := hx i x e
            obtain ⟨b, v, w, rfl, rfl, hb, _⟩ := ok_cap (hcp.same s4) (List.all_eq_true.mp al c (List.mem_of_getElem? e1))
            exact ⟨b, v, w, rfl, by rw [List.getElem?_map, e1]; rfl, hb⟩
          refine ⟨a, p, rfl, ⟨_, SqT.of h4⟩, ⟨_, SqT.of hp⟩, ?_⟩
          have hz : ((cs.map fst).zip (cs.map fst).tail).length = xs.length - 1 := by rw [List.length_zip, List.length_tail, List.length_map]; omega
          refine comp_by (own := ["one", "other"]) (cap := []) (J := Itzv K a p) (xs.length - 1) (fun i ys σ H' => ∃ v1 v2 : Option V, σ = [v1, v2] ∧ ys = ((((cs.map fst).zip (cs.map fst).tail).take i).map fun p => decide (p.1 < p.2)).map V.bl ∧ Same H4 H') ⟨none, none, rfl, rfl, Same.refl _⟩
            (fun i ys σ H' hi ⟨_, _, _, e, _⟩ => ?_) (by omega) (fun i ys σ H' hi ⟨_, _, _, _, s5⟩ => ?_) (fun ys σ H' ⟨_, _, _, _, s5⟩ => ?_) ?_ ?_
          · rw [e, List.length_map, List.length_map, List.length_take]; omega
          · exact ⟨xs, xs.tail, xs[i], xs.tail[i]'(by rw [List.length_tail]; omega), SqT.of (s5 _ _ h4), SqT.of (s5 _ _ hp), List.getElem?_eq_getElem _, List.getElem?_eq_getElem _⟩
          · exact ⟨xs, xs.tail, SqT.of (s5 _ _ h4), SqT.of (s5 _ _ hp), by rw [List.length_tail]; omega⟩
          · rintro i ys σ H5 x H6 N hi ⟨v1, v2, rfl, rfl, s5⟩ ⟨t, x, y, hn, rfl, hx1, hy1, rfl⟩ hN
            have hx1 := hx1 _ (SqT.of (s5 _ _ h4))
            have hy1 := hy1 _ (SqT.of (s5 _ _ hp))
            rw [List.getElem?_tail] at hy1
            obtain ⟨b1, v1, w1, rfl, g1, hb1⟩ := caps i x hx1
            obtain ⟨b2, v2, w2, rfl, g2, hb2⟩ := caps (i + 1) y hy1
            have s6 := s5.then (o := .tup [.ref b1, .ref b2]) hn
            refine ⟨t, _, rfl, SqT.of upd_same, rfl, _, _, rfl, _, _, rfl, rfl, ?_⟩
            refine ⟨_, rfl, b1, _, _, _, rfl, rfl, SqT.of (s6 _ _ hb1), rfl, _, rfl, b2, _, _, _, rfl, rfl, SqT.of (s6 _ _ hb2), rfl, _, _, rfl, rfl, hN _ _ _ ⟨_, _, rfl, ?_, s6⟩⟩
            have gz : ((cs.map fst).zip (cs.map fst).tail)[i]? = some (v1, v2) := by
              rw [List.getElem?_zip_eq_some]
              exact ⟨g1, by rw [List.getElem?_tail]; exact g2⟩
            rw [take_map _ gz, List.map_append]
            rfl
          · rintro ys σ H5 q2 ⟨v1, v2, rfl, rfl, s5⟩ hq2
            refine ⟨q2, _, rfl, SqL.of upd_same, ?_⟩
            rw [List.take_of_length_le (by rw [hz]; exact Nat.le_refl _), List.all_map]
            exact k _ ((s4.trans s5).then hq2)
      · refine iteC (decide_eq_true (by omega)) ?_
        have this : Q (.bl (decide (cs.length ≤ 6) && cs.all (okCap (hol u).length) && ris cs)) H := k H (Same.refl _)
        rw [decide_eq_false (by omega : ¬ cs.length ≤ 6), Bool.false_and, Bool.false_and] at this
        exact this
abbrev s_capped : Stmt := top 20
theorem sc_capped : FnScope ["surface", "caps", "told"] ["surface", "caps"] (defScope s_capped) := ⟨rfl, rfl, rfl, by decide +kernel, rfl, by decide +kernel, by decide +kernel⟩
theorem c_capped (D : Df K mg "capped" s_capped) (T : Bt K w mg aB) (F_holes : Fnc P w K mg base "holes" ["surface"] 3 spHoles) : Fnc P w K mg base "capped" ["surface", "caps"] 4 spCapped := by
  have sc := sc_capped
  refine D.ok sc (fun _ _ _ _ _ _ us hl => match us, hl with | [_, _], _ => rfl) (fun vs H Q E h => ?_) (fun f cdv A outer s H vs Q E hr h => ?_)
  · obtain ⟨u, a, ps, rfl, _⟩ := h
    rfl
  · obtain ⟨u, a, ps, rfl, U, hq, k⟩ := h
    have l16 := line16
    have h6 := hq.le
    refine ⟨_, (@pss_cons _ _ _ _ _ (@ps_set _ _ (2) _ _ _ _ sc.nd rfl (Or.inr rfl) (@pe_fn _ _ _ _ _ _ _ _ _ _ _ F_holes hr (by decide) rfl (@pa_cons _ _ _ _ _ (pv 0) pa_nil (by rfl)) (by decide) (by rfl) (by rfl)) (by rfl) (by first | exact .inl rfl | exact .inr rfl | assumption)) (@pss_one _ _ _ (@ps_ret _ _ _ _ (@pe_callTy _ _ _ _ _ _ _ _ _ call_tuple_of (by rfl) T.tuple b_tuple (@pa_cons _ _ _ _ _ (@pe_comp _ _ _ _ _ _ _ (["cap", "told"]) (["cap"]) ([2]) _ _ _ _ (@blk_of _ _ _ _ _ _ rfl (by kernel_rfl)) rfl (@pi_tup _ _ _ _ (pv 1)) (fun _ _ _ _ => @pg_name _ _ (0) _ (show (["cap", "told"] : List Str).Nodup from by decide +kernel) rfl (Or.inl rfl) (by first | exact .inl rfl | exact .inr rfl | assumption)) (fun _ _ _ _ => pifs_nil) (fun _ _ _ _ => by (exact @pe_op _ _ _ _ _ _ _ _ op_mul_str (by (exact (@pe_ix _ _ _ _ _ _ _ (@ix_listK _ (K) rfl) (pv 1) (@pe_ix _ _ _ _ _ _ _ (@ix_tupK _ (K) rfl) (pv 0) pe_int (fun _ _ => rfl)) (fun _ _ => rfl)))) (by (exact (@pe_ix _ _ _ _ _ _ _ (@ix_tupK _ (K) rfl) (pv 0) pe_int (fun _ _ => rfl)))))) (by intro _ ; rfl)) pa_nil (by rfl)) (by decide) (by decide) (by rfl) (by rfl))))), ?_⟩
    refine ⟨_, rfl, u, rfl, U, fun l H1 hl0 hl1 s1 => ?_⟩
    obtain ⟨xs, h1, h2, h3⟩ := (hq.same s1).ex
    refine ⟨_, rfl, a, rfl, ⟨xs, SqT.of h1⟩, ?_⟩
    refine comp_tup (xs := xs) (own := ["cap"]) (cap := [2]) (fun i ys σ H' => ∃ v : Option V, σ = [v, some (.ref l)] ∧ ys = ((capW u ps).take i).map tx ∧ H' = H1) ⟨none, rfl, rfl, rfl⟩ (fun i ys σ H' hi ⟨v, _, e, _⟩ => ?_) (by omega) (fun i ys σ H' ⟨_, _, _, s1⟩ => by rw [s1]; exact SqT.of h1) ?_ ?_
    · rw [e, List.length_map, List.length_take]; omega
    · rintro i ys σ H2 y N hyi ⟨v, rfl, rfl, rfl⟩ hN
      obtain ⟨b, p, rfl, e, hb⟩ := h3 i y hyi
      obtain ⟨o1, o2, o3⟩ := hq.ok p (List.mem_of_getElem? e)
      have hat : atI ((hol u).map tx) (p.1 : Int) = some (tx ((hol u).getD p.1 [])) := by
        unfold atI ixN
        rw [if_pos (by omega), if_pos (by rw [List.length_map]; omega)]
        show ((hol u).map tx)[_]? = _
        rw [Int.toNat_natCast, List.getElem?_map, List.getElem?_eq_getElem o1, List.getD_eq_getElem?_getD, List.getElem?_eq_getElem o1]
        rfl
      have ec : (capW u ps)[i]? = some (rep p.2 ((hol u).getD p.1 [])) := by unfold capW; rw [List.getElem?_map, e]; rfl
      have hm : (hol u).getD p.1 [] ∈ hol u := by
        rw [List.getD_eq_getElem?_getD, List.getElem?_eq_getElem o1]
        exact List.getElem_mem o1
      have hlw : ((hol u).getD p.1 []).length ≤ 10000 := by
        have h1 := List.Sublist.length_le (List.sublist_flatten_of_mem hm)
        have h2 := (hol_dc U).pm.length_eq
        have := U.le
        omega
      refine ⟨_, rfl, _, rfl, b, _, _, _, rfl, rfl, SqT.of hb, rfl, l, _, _, _, rfl, rfl, SqL.of hl1, hat, _, rfl, b, _, _, _, rfl, rfl, SqT.of hb, rfl, _, _, rfl, rfl, mulOk_toS _ (by omega) (by omega) hlw, ?_⟩
      rw [rep_toS, Int.toNat_natCast]
      refine hN _ _ _ ⟨_, rfl, ?_, rfl⟩
      rw [take_map tx ec]
      rfl
    · rintro ys σ H2 q ⟨v, rfl, rfl, rfl⟩ hq2
      rw [List.take_of_length_le (by unfold capW; rw [List.length_map]; omega)]
      have s2 : Same H2 (upd H2 q (.lst ((capW u ps).map tx))) := Same.new hq2
      refine ⟨q, _, rfl, .inl ⟨SqL.of upd_same, fun r hr => ?_⟩⟩
      exact k r _ (none_of (s1.trans s2) hr) upd_same ((s1.trans s2).trans (Same.new hr))
end
end Kx
set_option Elab.async false
set_option linter.all false
set_option maxRecDepth 100000
set_option maxHeartbeats 0
namespace Kx
open PySem PySem.Spec PyProof.Rows L2 Wd
section
variable {P : Program} {w : World} {K : PySem.W.Frag} {mg : Str → Option Value} {base : Heap} {aB : Addr}
abbrev s_btw : Stmt := top 33
theorem sc_btw : FnScope ["_law_thing", "_law_least", "_law_most"] ["_law_thing", "_law_least", "_law_most"] (defScope s_btw) := ⟨rfl, rfl, rfl, by decide +kernel, rfl, by decide +kernel, by decide +kernel⟩
theorem c_btw (D : Df K mg "_law_is_between" s_btw) (T : Bt K w mg aB) (Tbool : mg "bool" = none) : Fnc P w K mg base "_law_is_between" ["_law_thing", "_law_least", "_law_most"] 1 (spBtw K) := by
  have sc := sc_btw
  refine D.ok sc (fun _ _ _ _ _ _ us hl => match us, hl with | [_, _, _], _ => rfl) (fun vs H Q E h => ?_) (fun f cdv A outer s H vs Q E hr h => ?_)
  · obtain ⟨x, lo, hi, rfl, _⟩ := h
    rfl
  · obtain ⟨x, lo, hi, rfl, ⟨ty, e1, e2, hx⟩, k⟩ := h
    refine ⟨_, (@pss_one _ _ _ (@ps_ret _ _ _ _ (@pe_and _ _ _ _ _ _ _ (@pe_callB _ _ _ _ _ _ _ _ _ (@call_isK _ (K) rfl) (by rfl) T.isinstance b_isinstance (@pa_cons _ _ _ _ _ (pv 0) (@pa_cons _ _ _ _ _ (@pe_bltn _ _ (.ty "int") _ _ rfl T.int b_int rfl (by decide) (by decide)) pa_nil (by rfl)) (by rfl)) (by decide) (by decide) (by rfl) (by rfl)) (@pe_and _ _ _ _ _ _ _ (@pe_not _ _ _ _ (@pe_callB _ _ _ _ _ _ _ _ _ (@call_isK _ (K) rfl) (by rfl) T.isinstance b_isinstance (@pa_cons _ _ _ _ _ (pv 0) (@pa_cons _ _ _ _ _ (@pe_bltn _ _ (.ty "bool") _ _ rfl Tbool b_bool rfl (by decide) (by decide)) pa_nil (by rfl)) (by rfl)) (by decide) (by decide) (by rfl) (by rfl))) (@pe_one _ _ _ _ _ (@pe_chain _ _ _ _ _ _ _ _ _ _ _ _ op_le op_le (pv 1) (pv 0) (pv 2) (by with_unfolding_all rfl))))))), ?_⟩
    refine ⟨_, rfl, _, _, _, _, rfl, ty, e1, _, rfl, ?_⟩
    rename_i b1 b2
    have no : whV x = false → btB lo hi x = false := fun e => by
      cases x with
      | int i => cases e
      | _ => rfl
    cases b1 with
    | false =>
      rw [no (by rw [hx]; rfl)] at k
      exact iteF k
    | true =>
      refine iteT ⟨_, rfl, _, _, _, _, rfl, ty, e2, _, rfl, _, rfl, ?_⟩
      cases b2 with
      | true =>
        rw [no (by rw [hx]; rfl)] at k
        exact iteF k
      | false =>
        cases x with
        | int i =>
          have k : Q (.bl (decide (lo ≤ i) && decide (i ≤ hi))) H := k
          refine iteT ⟨_, rfl, _, rfl, _, _, rfl, rfl, _, rfl, ?_⟩
          by_cases c1 : lo ≤ i
          · rw [decide_eq_true c1, Bool.true_and] at k
            exact iteC (decide_eq_true c1) ⟨_, rfl, _, _, rfl, rfl, k⟩
          · rw [decide_eq_false c1, Bool.false_and] at k
            exact iteD (decide_eq_false c1) k
        | _ => cases hx
abbrev s_liscaps : Stmt := top 34
theorem sc_liscaps : FnScope ["_law_many", "_law_thing", "_law_last", "_law_one"] ["_law_many", "_law_thing"] (defScope s_liscaps) := ⟨rfl, rfl, rfl, by decide +kernel, rfl, by decide +kernel, by decide +kernel⟩
theorem c_liscaps (D : Df K mg "_law_is_caps" s_liscaps) (T : Bt K w mg aB) (F_btw : Fnc P w K mg base "_law_is_between" ["_law_thing", "_law_least", "_law_most"] 1 (spBtw K)) : Fnc P w K mg base "_law_is_caps" ["_law_many", "_law_thing"] 2 (spLIsCaps K) := by
  have sc := sc_liscaps
  refine D.ok sc (fun _ _ _ _ _ _ us hl => match us, hl with | [_, _], _ => rfl) (fun vs H Q E h => ?_) (fun f cdv A outer s H vs Q E hr h => ?_)
  · obtain ⟨n, x, c, rfl, _⟩ := h
    rfl
  · obtain ⟨n, x, c, rfl, hx, k⟩ := h
    have l16 := line16
    refine ⟨_, (@pss_cons _ _ _ _ _ (@ps_if _ _ _ _ _ _ _ _ (@PW.pt _ _ _ (@pw_or _ _ _ _ _ _ _ (@pt_not _ _ _ _ (@pt_truth _ _ _ (@pe_callB _ _ _ _ _ _ _ _ _ (@call_isK _ (K) rfl) (by rfl) T.isinstance b_isinstance (@pa_cons _ _ _ _ _ (pv 1) (@pa_cons _ _ _ _ _ (@pe_bltn _ _ (.ty "tuple") _ _ rfl T.tuple b_tuple rfl (by decide) (by decide)) pa_nil (by rfl)) (by rfl)) (by decide) (by decide) (by rfl) (by rfl)) (fun _ => rfl))) (@pw_or1 _ _ _ _ (@pt_cmpR _ _ _ _ _ _ _ _ op_gt (@pe_callB _ _ _ _ _ _ _ _ _ call_len_seq (by rfl) T.len PySem.boot_len (@pa_cons _ _ _ _ _ (pv 1) pa_nil (by rfl)) (by decide) (by decide) (by rfl) (by rfl)) pe_int (nomark _))))) (@pss_one _ _ _ (@ps_ret _ _ _ _ pe_bl)) pss_nil) (@pss_cons _ _ _ _ _ (@ps_set _ _ (2) _ _ _ _ sc.nd rfl (Or.inl rfl) (@pe_un _ _ _ _ _ _ un_neg pe_int) (by rfl) (by first | exact .inl rfl | exact .inr rfl | assumption)) (@pss_cons _ _ _ _ _ (@ps_for _ _ _ _ _ _ _ _ PassesOwn.never rfl (@pi_tup _ _ _ _ (pv 1)) (@pg_name _ _ (3) _ sc.nd rfl (Or.inl rfl) (by first | exact .inl rfl | exact .inr rfl | assumption)) (@pss_cons _ _ _ _ _ (@ps_if _ _ _ _ _ _ _ _ (@PW.pt _ _ _ (@pw_or _ _ _ _ _ _ _ (@pt_not _ _ _ _ (@pt_truth _ _ _ (@pe_callB _ _ _ _ _ _ _ _ _ (@call_isK _ (K) rfl) (by rfl) T.isinstance b_isinstance (@pa_cons _ _ _ _ _ (pv 3) (@pa_cons _ _ _ _ _ (@pe_bltn _ _ (.ty "tuple") _ _ rfl T.tuple b_tuple rfl (by decide) (by decide)) pa_nil (by rfl)) (by rfl)) (by decide) (by decide) (by rfl) (by rfl)) (fun _ => rfl))) (@pw_or _ _ _ _ _ _ _ (@pt_cmpR _ _ _ _ _ _ _ _ op_ne (@pe_callB _ _ _ _ _ _ _ _ _ call_len_seq (by rfl) T.len PySem.boot_len (@pa_cons _ _ _ _ _ (pv 3) pa_nil (by rfl)) (by decide) (by decide) (by rfl) (by rfl)) pe_int (nomark _)) (@pw_or1 _ _ _ _ (@pt_not _ _ _ _ (@pt_truth _ _ _ (@pe_fn _ _ _ _ _ _ _ _ _ _ _ F_btw hr (by decide) rfl (@pa_cons _ _ _ _ _ (@pe_ix _ _ _ _ _ _ _ ix_tup (pv 3) pe_int (fun _ _ => rfl)) (@pa_cons _ _ _ _ _ (@pe_op _ _ _ _ _ _ _ _ op_add (pv 2) pe_int) (@pa_cons _ _ _ _ _ (@pe_op _ _ _ _ _ _ _ _ op_sub (pv 0) pe_int) pa_nil (by rfl)) (by rfl)) (by rfl)) (by decide) (by rfl) (by rfl)) (fun _ => rfl))))))) (@pss_one _ _ _ (@ps_ret _ _ _ _ pe_bl)) pss_nil) (@pss_cons _ _ _ _ _ (@ps_if _ _ _ _ _ _ _ _ (@pt_not _ _ _ _ (@pt_truth _ _ _ (@pe_fn _ _ _ _ _ _ _ _ _ _ _ F_btw hr (by decide) rfl (@pa_cons _ _ _ _ _ (@pe_ix _ _ _ _ _ _ _ ix_tup (pv 3) pe_int (fun _ _ => rfl)) (@pa_cons _ _ _ _ _ pe_int (@pa_cons _ _ _ _ _ pe_int pa_nil (by rfl)) (by rfl)) (by rfl)) (by decide) (by rfl) (by rfl)) (fun _ => rfl))) (@pss_one _ _ _ (@ps_ret _ _ _ _ pe_bl)) pss_nil) (@pss_one _ _ _ (@ps_set _ _ (2) _ _ _ _ sc.nd rfl (Or.inl rfl) (@pe_ix _ _ _ _ _ _ _ ix_tup (pv 3) pe_int (fun _ _ => rfl)) (by rfl) (by first | exact .inl rfl | exact .inr rfl | assumption))))) (by intro _ ; rfl)) (@pss_one _ _ _ (@ps_ret _ _ _ _ pe_bl))))), ?_⟩
    cases hx with
    | oth ty e => exact ⟨_, rfl, _, _, _, _, rfl, ty, e, _, rfl, iteC rfl (k _ (Same.refl _))⟩
    | @tup a xs cs h hx hl hc =>
      refine ⟨_, rfl, _, _, _, _, rfl, .tup h, kit_tupT, _, rfl, iteD rfl ⟨_, rfl, a, xs, rfl, .inr (SqT.of h), _, _, rfl, rfl, _, rfl, ?_⟩⟩
      by_cases h6 : xs.length ≤ 6
      · refine iteD (decide_eq_false (by omega)) ?_
        have k : ∀ H', Same H H' → Q (.bl (cs.all (okCap n) && ris cs)) H' := fun H' s' => by
          have this : Q (.bl (decide (cs.length ≤ 6) && cs.all (okCap n) && ris cs)) H' := k H' s'
          rwa [decide_eq_true (by omega : cs.length ≤ 6), Bool.true_and] at this
        have k : ∀ H', Same H H' → Q (.bl (seqB n (-1) cs)) H' := fun H' s' => by rw [seq_start]; exact k H' s'
        refine ⟨_, rfl, _, rfl, a, rfl, ⟨xs, SqT.of h⟩, for_tup (xs := xs) (fun i σ H' => ∃ (last : Int) (v : Option V), σ = [some (.int (n : Int)), some (.ref a), some (.int last), v] ∧ seqB n (-1) cs = seqB n last (cs.drop i) ∧ H' = H) ⟨-1, none, rfl, rfl, rfl⟩ (fun i σ H' _ ⟨_, _, _, _, e⟩ => by rw [e]; exact SqT.of h) ?_ ?_⟩
        · rintro i y σ H1 hyi ⟨last, v, rfl, e, rfl⟩
          obtain ⟨c, ec, hcp⟩ := hx i y hyi
          have ed : cs.drop i = c :: cs.drop (i + 1) := by
            obtain ⟨hi, e1⟩ := List.getElem?_eq_some_iff.mp ec
            rw [List.drop_eq_getElem_cons hi, e1]
          rw [ed] at e
          have k := k _ (Same.refl _)
          rw [e] at k
          cases hcp with
          | oth ty e1 => exact ⟨_, rfl, _, _, _, _, rfl, ty, e1, _, rfl, iteC rfl k⟩
          | @tup b ys hb hys hyl ne =>
            have k : Q (.bl false) H1 := k
            refine ⟨_, rfl, _, _, _, _, rfl, .tup hb, kit_tupT, _, rfl, iteD rfl ⟨_, rfl, b, ys, rfl, .inr (SqT.of hb), rfl, _, rfl, ?_⟩⟩
            by_cases hn : ys.length = 2
            · refine iteD (by rw [hn]; rfl) ?_
              match ys, hn, hb, hys, ne with
              | [p, q], _, hb, hys, ne =>
                refine ⟨_, rfl, b, _, _, _, rfl, rfl, SqT.of hb, rfl, _, rfl, _, _, rfl, rfl, _, rfl, _, _, rfl, rfl, p, _, _, rfl, hys p (by simp), _, rfl, ?_⟩
                cases b0 : btB (last + 1) ((n : Int) - 1) p with
                | false => exact iteC rfl k
                | true =>
                  refine iteD rfl ?_
                  refine ⟨_, rfl, b, _, _, _, rfl, rfl, SqT.of hb, rfl, q, _, _, rfl, hys q (by simp), _, rfl, ?_⟩
                  have bq : btB 1 10 q = false := by
                    cases q with
                    | int j =>
                      cases p with
                      | int i => exact absurd ⟨rfl, rfl⟩ ne
                      | _ => cases b0
                    | _ => rfl
                  exact iteC (by show (!btB 1 10 q) = true; rw [bq]; rfl) k
            · exact iteC (by rw [decide_eq_false fun e => hn (by have := V.int.inj e; omega)]; rfl) k
          | @cap b p q hb =>
            have k : Q (.bl (decide (last + 1 ≤ p) && decide (p ≤ (n : Int) - 1) && (decide (1 ≤ q) && decide (q ≤ 10)) && seqB n p (cs.drop (i + 1)))) H1 := k
            have e : seqB n (-1) cs = (decide (last + 1 ≤ p) && decide (p ≤ (n : Int) - 1) && (decide (1 ≤ q) && decide (q ≤ 10)) && seqB n p (cs.drop (i + 1))) := e
            refine ⟨_, rfl, _, _, _, _, rfl, .tup hb, kit_tupT, _, rfl, iteD rfl ⟨_, rfl, b, _, rfl, .inr (SqT.of hb), rfl, _, rfl, ?_⟩⟩
            refine iteD rfl ?_
            refine ⟨_, rfl, b, _, _, _, rfl, rfl, SqT.of hb, rfl, _, rfl, _, _, rfl, rfl, _, rfl, _, _, rfl, rfl, .int p, _, _, rfl, wh_dt (.int p), _, rfl, ?_⟩
            cases b0 : (decide (last + 1 ≤ p) && decide (p ≤ (n : Int) - 1)) with
            | false =>
              rw [b0, Bool.false_and, Bool.false_and] at k
              exact iteC (by show (!(decide (last + 1 ≤ p) && decide (p ≤ (n : Int) - 1))) = true; rw [b0]; rfl) k
            | true =>
              rw [b0, Bool.true_and] at k e
              refine iteD (by show (!(decide (last + 1 ≤ p) && decide (p ≤ (n : Int) - 1))) = false; rw [b0]; rfl) ?_
              refine ⟨_, rfl, b, _, _, _, rfl, rfl, SqT.of hb, rfl, .int q, _, _, rfl, wh_dt (.int q), _, rfl, ?_⟩
              cases b1 : (decide (1 ≤ q) && decide (q ≤ 10)) with
              | false =>
                rw [b1, Bool.false_and] at k
                exact iteC (by show (!(decide (1 ≤ q) && decide (q ≤ 10))) = true; rw [b1]; rfl) k
              | true =>
                rw [b1, Bool.true_and] at e
                refine iteD (by show (!(decide (1 ≤ q) && decide (q ≤ 10))) = false; rw [b1]; rfl) ?_
                exact ⟨_, rfl, b, _, _, _, rfl, rfl, SqT.of hb, rfl, p, _, rfl, e, rfl⟩
        · rintro σ H1 ⟨last, v, rfl, e, rfl⟩
          rw [List.drop_of_length_le (by omega)] at e
          have k := k _ (Same.refl _)
          rw [e] at k
          exact k
      · refine iteC (decide_eq_true (by omega)) ?_
        have this : Q (.bl (decide (cs.length ≤ 6) && cs.all (okCap n) && ris cs)) H := k H (Same.refl _)
        rw [decide_eq_false (by omega : ¬ cs.length ≤ 6), Bool.false_and, Bool.false_and] at this
        exact this
end
end Kx
set_option Elab.async false
set_option linter.all false
set_option maxRecDepth 100000
set_option maxHeartbeats 0
namespace Kx
open PySem PySem.Spec PyProof.Rows L2 Wd
section
variable {P : Program} {w : World} {K : PySem.W.Frag} {mg : Str → Option Value} {base : Heap} {aB : Addr}
theorem find_at {u : List L} {x : L} (h : x ∈ u) : Txt.find (toS u) (toS [x]) = (u.idxOf x : Int) := by
  obtain ⟨rest, e⟩ := idx_at h
  unfold Txt.find
  rw [e]
abbrev s_lholes : Stmt := top 31
theorem sc_lholes : FnScope ["_law_row", "_law_met", "_law_found", "_law_gap", "_law_word", "_law_at", "_law_sign"] ["_law_row"] (defScope s_lholes) := ⟨rfl, rfl, rfl, by decide +kernel, rfl, by decide +kernel, by decide +kernel⟩
theorem c_lholes (D : Df K mg "_law_holes" s_lholes) (T : Bt K w mg aB) (F_lback : Fnc P w K mg base "_law_back" ["_law_word"] 1 spBk) : Fnc P w K mg base "_law_holes" ["_law_row"] 2 spHoles := by
  have sc := sc_lholes
  refine D.ok sc (fun _ _ _ _ _ _ us hl => match us, hl with | [_], _ => rfl) (fun vs H Q E h => ?_) (fun f cdv A outer s H vs Q E hr h => ?_)
  · obtain ⟨u, rfl, _⟩ := h
    rfl
  · obtain ⟨u, rfl, U, k⟩ := h
    have hu := hu_of hr
    have l16 := line16
    have h12 := U.le
    have hpos := U.pos
    have hll : (toS u).length ≤ sizeLine := by rw [toS_length]; omega
    refine ⟨_, (@pss_cons _ _ _ _ _ (@ps_set _ _ (1) _ _ _ _ sc.nd rfl (Or.inl rfl) pe_dnewK (by rfl) (by first | exact .inl rfl | exact .inr rfl | assumption)) (@pss_cons _ _ _ _ _ (@ps_set _ _ (2) _ _ _ _ sc.nd rfl (Or.inl rfl) (@pe_lst _ _ _ _ pa_nil) (by rfl) (by first | exact .inl rfl | exact .inr rfl | assumption)) (@pss_cons _ _ _ _ _ (@ps_for _ _ _ _ _ _ _ _ PassesOwn.never rfl (@pi_range1 _ _ _ _ _ _ rfl T.range (@pa_cons _ _ _ _ _ (@pe_callB _ _ _ _ _ _ _ _ _ call_len_str (by rfl) T.len PySem.boot_len (@pa_cons _ _ _ _ _ (pv 0) pa_nil (by rfl)) (by decide) (by decide) (by rfl) (by rfl)) pa_nil (by rfl)) (by rfl)) (@pg_name _ _ (3) _ sc.nd rfl (Or.inl rfl) (by first | exact .inl rfl | exact .inr rfl | assumption)) (@pss_cons _ _ _ _ _ (@ps_set _ _ (4) _ _ _ _ sc.nd rfl (Or.inl rfl) pe_str (by rfl) (by first | exact .inl rfl | exact .inr rfl | assumption)) (@pss_cons _ _ _ _ _ (@ps_set _ _ (5) _ _ _ _ sc.nd rfl (Or.inl rfl) (pv 3) (by rfl) (by first | exact .inl rfl | exact .inr rfl | assumption)) (@pss_cons _ _ _ _ _ (@ps_while _ _ _ _ _ _ PassesOwn.never (@pt_dnot _ _ _ _ _ _ hu (pv 5) (pv 1) rfl) (@pss_cons _ _ _ _ _ (@ps_dput _ _ _ _ _ _ _ _ _ hu (pv 1) (pv 5) pe_bl rfl) (@pss_cons _ _ _ _ _ (@ps_set _ _ (6) _ _ _ _ sc.nd rfl (Or.inl rfl) (@pe_ix _ _ _ _ _ _ _ ix_str (pv 0) (@pe_op _ _ _ _ _ _ _ _ op_mod (@pe_op _ _ _ _ _ _ _ _ op_add (pv 5) pe_int) (@pe_callB _ _ _ _ _ _ _ _ _ call_len_str (by rfl) T.len PySem.boot_len (@pa_cons _ _ _ _ _ (pv 0) pa_nil (by rfl)) (by decide) (by decide) (by rfl) (by rfl))) (fun _ _ => rfl)) (by rfl) (by first | exact .inl rfl | exact .inr rfl | assumption)) (@pss_cons _ _ _ _ _ (@ps_set _ _ (4) _ _ _ _ sc.nd rfl (Or.inl rfl) (@pe_op _ _ _ _ _ _ _ _ op_add_str (pv 4) (pv 6)) (by rfl) (by first | exact .inl rfl | exact .inr rfl | assumption)) (@pss_one _ _ _ (@ps_set _ _ (5) _ _ _ _ sc.nd rfl (Or.inl rfl) (@pe_bm _ _ _ _ _ _ _ _ _ _ _ _ PySem.F.plainAttrs_str PySem.F.slot_str_find PySem.F.type_str_find mt_find1 (pv 0) (@pa_cons _ _ _ _ _ (@pe_fn _ _ _ _ _ _ _ _ _ _ _ F_lback hr (by decide) rfl (@pa_cons _ _ _ _ _ (pv 6) pa_nil (by rfl)) (by decide) (by rfl) (by rfl)) pa_nil (by rfl)) (by rfl) (by rfl) (by rfl) (by rfl) (by rfl)) (by rfl) (by first | exact .inl rfl | exact .inr rfl | assumption))))))) (@pss_one _ _ _ (@ps_if _ _ _ _ _ _ _ _ (@pt_cmpR _ _ _ _ _ _ _ _ op_ne (pv 4) pe_str (nomark _)) (@pss_one _ _ _ (@ps_expr _ _ _ _ (@pe_bm _ _ _ _ _ _ _ _ _ _ _ _ PySem.F.plainAttrs_list PySem.F.slot_list_append PySem.F.type_list_append mt_append (pv 2) (@pa_cons _ _ _ _ _ (pv 4) pa_nil (by rfl)) (by rfl) (by rfl) (by rfl) (by rfl) (by rfl)) (by rfl))) pss_nil))))) (by intro _ ; rfl)) (@pss_one _ _ _ (@ps_ret _ _ _ _ (pv 2)))))), ?_⟩
    intro a ha
    have s1 : Same H (upd H a (.dK [])) := Same.new ha
    have f1 : (upd H a (.dK [])) a = some (.dK []) := upd_same
    generalize upd H a (.dK []) = H1 at s1 f1 ⊢
    refine ⟨(by show 0 ≤ sizeLine; decide), fun l hl => ?_⟩
    have la : a ≠ l := ne_of_none f1 hl
    have hl0 := none_of s1 hl
    have s2 := s1.trans (Same.new (o := .lst []) hl)
    have g2 := (Same.new (o := .lst []) hl) _ _ f1
    have f2 : (upd H1 l (.lst [])) l = some (.lst []) := upd_same
    generalize upd H1 l (.lst []) = H2 at s2 f2 g2 ⊢
    refine ⟨_, rfl, _, rfl, hll, _, rfl, (by rw [toS_length]; omega), (by rw [toS_length]; omega), ?_⟩
    rw [toS_length]
    refine for_range (lo := 0) (n := (u.length : Int).toNat) (fun i σ H' => ∃ v1 v2 v3 v4 : Option V, σ = [some (tx u), some (.ref a), some (.ref l), v1, v2, v3, v4] ∧ H' l = some (.lst ((holS u i).2.map tx)) ∧ H' a = some (.dK (sk (holS u i).1)) ∧ Sn u (holS u i).1 ∧ Same H H') ⟨none, none, none, none, rfl, f2, g2, Sn.nil u, s2⟩ ?_ ?_
    · rintro i σ H3 hi ⟨v1, v2, v3, v4, rfl, h1, h2, hs0, s3⟩
      have hi : i < u.length := by omega
      rw [Int.zero_add]
      refine ⟨_, rfl, ?_⟩
      refine ⟨fun m σ H' => ∃ (S : List Nat) (w : List L) (g : Nat) (v : Option V), σ = [some (tx u), some (.ref a), some (.ref l), some (.int (i : Int)), some (tx w), some (.int (g : Int)), v] ∧ Sn u S ∧ g < u.length ∧ H' a = some (.dK (sk S)) ∧ H' l = some (.lst ((holS u i).2.map tx)) ∧ Same H H' ∧ wk u g S w = wk u i (holS u i).1 [] ∧ w.length ≤ S.length ∧ m = u.length + 1 - S.length, ⟨_, (holS u i).1, [], i, _, rfl, hs0, hi, h2, h1, s3, rfl, Nat.zero_le _, rfl⟩, ?_⟩
      rintro m σ H4 ⟨S, w, g, v, rfl, hs, hg, h2, h1, s4, e, hw, rfl⟩
      have hle := hs.le
      refine ⟨_, rfl, _, rfl, a, _, rfl, DGet.k (k := Sum.inl (g : Int)) h2, ?_⟩
      rw [sk_get]
      refine ⟨_, rfl, ?_⟩
      refine ite2 (fun h => ?_) (fun h => ?_)
      · have h : g ∉ S := by simpa using h
        have hs' := hs.snoc hg h
        have hle' := hs'.le
        rw [List.length_append, List.length_singleton] at hle'
        refine ⟨_, fun σ' H' q => q, ?_⟩
        refine ⟨_, rfl, _, rfl, a, _, rfl, DPut.k (k := Sum.inl (g : Int)) h2 (by rw [sk_len]; omega), ?_⟩
        rw [sk_put h]
        have hx := letH_get U g
        have em : ((g : Int) + 1) % (u.length : Int) = (((g + 1) % u.length : Nat) : Int) := by rw [Int.natCast_emod]; rfl
        refine ⟨_, rfl, _, rfl, _, _, rfl, rfl, _, rfl, _, rfl, (by rw [toS_length]; omega), _, _, rfl, rfl, (by rw [toS_length]; omega), _, _, cp (letH u g), rfl, rfl, (by rw [toS_length]; omega), atI_toS (k := (g + 1) % u.length) (by rw [toS_length]; exact em) hx, ?_⟩
        refine ⟨_, rfl, _, rfl, _, _, rfl, rfl, (by rw [toS_length]; show w.length + 1 ≤ sizeLine; omega), ?_⟩
        refine ⟨_, rfl, rfl, _, rfl, [letH u g], rfl, (by show 1 ≤ 5000; decide), fun H5 s5 => ?_⟩
        rw [bk_one]
        refine ⟨_, _, rfl, rfl, ?_⟩
        rw [find_at (U.iv _ (letH_mem U g))]
        have e2 := (wk_out (w := w) hs hg h).symm.trans e
        have u1 : SameB a H4 (upd H4 a (.dK (sk (S ++ [g])))) := SameB.upd
        refine ⟨u.length + 1 - (S ++ [g]).length, ?_, S ++ [g], w ++ [letH u g], stepH u g, some (tx [letH u g]), (by rw [← tx_app]; rfl), hs', stepH_lt U g, s5 _ _ upd_same, s5 _ _ (u1 _ _ la.symm h1), fun b o q => s5 _ _ (u1 _ _ (ne_of_none q ha) (s4 _ _ q)), e2, ?_, rfl⟩
        · rw [List.length_append, List.length_singleton]
          omega
        · rw [List.length_append, List.length_append]
          simp only [List.length_singleton]
          omega
      · have h : g ∈ S := by simpa using h
        rw [wk_in h] at e
        refine ⟨_, rfl, rfl, _, rfl, ?_⟩
        by_cases hi0 : i ∈ (holS u i).1
        · rw [wk_in hi0] at e
          obtain ⟨rfl, rfl⟩ := Prod.mk.inj e
          refine iteNS (by rw [tx_nil]) ⟨_, _, _, _, rfl, by rw [hol_in hi0]; exact h1, by rw [hol_in hi0]; exact h2, by rw [hol_in hi0]; exact hs0, s4⟩
        · have hne := wk_ne hs0 hi hi0
          rw [← e] at hne
          have hne : w ≠ [] := hne
          have ho := hol_out hi0
          rw [← e] at ho
          refine iteC (by rw [Bool.not_eq_true', decide_eq_false_iff_not]; intro z; rw [← tx_nil] at z; exact hne (tx_inj z)) ?_
          have hlen := hol_txs u i
          refine ⟨_, rfl, .inl ⟨rfl, _, SqL.of h1⟩, _, rfl, l, _, _, rfl, rfl, h1, by omega, _, _, _, _, rfl, ?_, ?_, ?_, ?_⟩
          · rw [upd_same, ho, List.map_append]
            rfl
          · rw [upd_ne la, ho]
            exact h2
          · rw [ho]
            exact hs
          · intro b o eb
            rw [upd_ne (ne_of_none eb hl0)]
            exact s4 _ _ eb
    · rintro σ H3 ⟨v1, v2, v3, v4, rfl, h1, h2, hs, s3⟩
      exact ⟨_, rfl, k l _ hl0 h1 s3⟩
abbrev s_lcaps : Stmt := top 32
theorem sc_lcaps : FnScope ["_law_feed_here", "_law_many", "_law_some"] ["_law_feed_here", "_law_many"] (defScope s_lcaps) := ⟨rfl, rfl, rfl, by decide +kernel, rfl, by decide +kernel, by decide +kernel⟩
theorem c_lcaps (D : Df K mg "_law_caps" s_lcaps) (T : Bt K w mg aB) (F_draw : Fnc P w K mg base "_law_draw" ["_law_feed_here", "_law_many"] 1 spDraw) : Fnc P w K mg base "_law_caps" ["_law_feed_here", "_law_many"] 2 spLCaps := by
  have sc := sc_lcaps
  refine D.ok sc (fun _ _ _ _ _ _ us hl => match us, hl with | [_, _], _ => rfl) (fun vs H Q E h => ?_) (fun f cdv A outer s H vs Q E hr h => ?_)
  · obtain ⟨d, n, rfl, _⟩ := h
    rfl
  · obtain ⟨d, n, rfl, F, h13, k⟩ := h
    have l16 := line16
    refine ⟨_, (@pss_cons _ _ _ _ _ (@ps_set _ _ (2) _ _ _ _ sc.nd rfl (Or.inl rfl) (@pe_slice _ _ _ _ _ _ _ _ _ _ sl_list (@pe_comp _ _ _ _ _ _ _ (["_law_hole", "_law_feed_here"]) (["_law_hole"]) ([0]) _ _ _ _ (@blk_of _ _ _ _ _ _ rfl (by kernel_rfl)) rfl (@pi_range1 _ _ _ _ _ _ rfl T.range (@pa_cons _ _ _ _ _ (pv 1) pa_nil (by rfl)) (by rfl)) (fun _ _ _ _ => @pg_name _ _ (0) _ (show (["_law_hole", "_law_feed_here"] : List Str).Nodup from by decide +kernel) rfl (Or.inl rfl) (by first | exact .inl rfl | exact .inr rfl | assumption)) (fun _ _ _ _ => (@pifs_one _ _ _ (by exact (@pt_cmpR _ _ _ _ _ _ _ _ op_eq (@pe_fn _ _ _ _ _ _ _ _ _ _ _ F_draw hr (by decide) rfl (@pa_cons _ _ _ _ _ (pv 1) (@pa_cons _ _ _ _ _ pe_int pa_nil (by rfl)) (by rfl)) (by decide) (by rfl) (by rfl)) pe_int (nomark _))))) (fun _ _ _ _ => by (exact (pv 0))) (by intro _ ; rfl)) po_none (@po_some _ _ _ pe_int)) (by rfl) (by first | exact .inl rfl | exact .inr rfl | assumption)) (@pss_one _ _ _ (@ps_ret _ _ _ _ (@pe_callTy _ _ _ _ _ _ _ _ _ call_tuple_of (by rfl) T.tuple b_tuple (@pa_cons _ _ _ _ _ (@pe_comp _ _ _ _ _ _ _ (["_law_hole", "_law_feed_here"]) (["_law_hole"]) ([0]) _ _ _ _ (@blk_of _ _ _ _ _ _ rfl (by kernel_rfl)) rfl (@pi_list _ _ _ _ (pv 2)) (fun _ _ _ _ => @pg_name _ _ (0) _ (show (["_law_hole", "_law_feed_here"] : List Str).Nodup from by decide +kernel) rfl (Or.inl rfl) (by first | exact .inl rfl | exact .inr rfl | assumption)) (fun _ _ _ _ => pifs_nil) (fun _ _ _ _ => by (exact (@pe_tup _ _ _ _ _ (@pa_cons _ _ _ _ _ (pv 0) (@pa_cons _ _ _ _ _ (@pe_op _ _ _ _ _ _ _ _ op_add pe_int (@pe_fn _ _ _ _ _ _ _ _ _ _ _ F_draw hr (by decide) rfl (@pa_cons _ _ _ _ _ (pv 1) (@pa_cons _ _ _ _ _ pe_int pa_nil (by rfl)) (by rfl)) (by decide) (by rfl) (by rfl))) pa_nil (by rfl)) (by rfl))))) (by intro _ ; rfl)) pa_nil (by rfl)) (by decide) (by decide) (by rfl) (by rfl))))), ?_⟩
    refine ⟨_, rfl, _, rfl, by omega, by omega, ?_⟩
    rw [Int.toNat_natCast]
    refine comp_by (own := ["_law_hole"]) (cap := [0]) (J := Itr 0 n) n (fun i ys σ H' => ∃ (v : Option V) (hs : List Nat), σ = [v, some (.ref d)] ∧ ys = hs.map (fun h : Nat => V.int (h : Int)) ∧ hs.length ≤ i ∧ hs.Pairwise (· < ·) ∧ (∀ h ∈ hs, h < i) ∧ Fd H' d ∧ SameB d H H')
      ⟨none, [], rfl, rfl, Nat.le_refl _, .nil, fun h q => (by cases q), F, (Same.refl H).b⟩ (fun i ys σ H' hi ⟨v, hs, _, e, e2, _⟩ => by rw [e, List.length_map]; exact e2) (by omega) (fun i ys σ H' hi _ => hi) (fun ys σ H' _ => Nat.le_refl _) ?_ ?_
    · rintro i ys σ H1 x H2 N hi ⟨v, hs, rfl, rfl, e2, pw, lt, F1, sb1⟩ ⟨rfl, rfl⟩ hN
      rw [Int.zero_add]
      refine ⟨_, rfl, d, _, rfl, F1, by decide, by decide, fun r H3 r0 r1 F3 sb3 => ?_⟩
      refine ⟨rfl, _, rfl, ite2 (fun h => ?_) (fun h => ?_)⟩
      · refine ⟨_, rfl, hN _ _ _ ⟨_, hs ++ [i], rfl, ?_, ?_, ?_, ?_, F3, sb1.trans sb3⟩⟩
        · rw [List.map_append]; rfl
        · rw [List.length_append, List.length_singleton]; omega
        · rw [List.pairwise_append]
          refine ⟨pw, List.pairwise_singleton _ _, fun a ha b hb => ?_⟩
          rw [List.mem_singleton] at hb
          subst hb
          exact lt a ha
        · intro a ha
          rcases List.mem_append.mp ha with ha | ha
          · have := lt a ha
            omega
          · rw [List.mem_singleton] at ha
            omega
      · exact hN _ _ _ ⟨_, hs, rfl, rfl, by omega, pw, fun a ha => by have := lt a ha; omega, F3, sb1.trans sb3⟩
    rintro ys σ H1 l ⟨v, hs, rfl, rfl, e2, pw, lt, F1, sb1⟩ hl
    have s2 : Same H1 (upd H1 l (.lst (hs.map fun h : Nat => V.int (h : Int)))) := Same.new hl
    refine ⟨_, rfl, l, _, rfl, SqL.of upd_same, fun p hp => ?_⟩
    have ec : cutV (hs.map fun h : Nat => V.int (h : Int)) none (some 6) = (hs.take 6).map fun h : Nat => V.int (h : Int) := by
      unfold cutV
      have e1 : HT.sIx (hs.map fun h : Nat => V.int (h : Int)).length 0 none = 0 := rfl
      have e3 : HT.sIx (hs.map fun h : Nat => V.int (h : Int)).length (hs.map fun h : Nat => V.int (h : Int)).length (some 6) = min 6 (hs.map fun h : Nat => V.int (h : Int)).length := HT.sIx_nat _ _ 6
      rw [e1, e3, List.drop_zero, Nat.sub_zero, List.length_map, ← List.map_take]
      congr 1
      by_cases h : hs.length ≤ 6
      · rw [List.take_of_length_le (by omega), List.take_of_length_le h]
      · rw [Nat.min_eq_left (by omega)]
    rw [ec]
    have s3 := s2.trans (Same.new (o := .lst ((hs.take 6).map fun h : Nat => V.int (h : Int))) hp)
    have f3 : (upd (upd H1 l (.lst (hs.map fun h : Nat => V.int (h : Int)))) p (.lst ((hs.take 6).map fun h : Nat => V.int (h : Int)))) p = some (.lst ((hs.take 6).map fun h : Nat => V.int (h : Int))) := upd_same
    generalize upd (upd H1 l (.lst (hs.map fun h : Nat => V.int (h : Int)))) p (.lst ((hs.take 6).map fun h : Nat => V.int (h : Int))) = H2 at s3 f3 ⊢
    have F2 := F1.same s3
    have sb2 := sb1.trans s3.b (d := d)
    have pd := F2.nl f3
    have pw : (hs.take 6).Pairwise (· < ·) := pw.sublist (List.take_sublist 6 hs)
    have lt : ∀ h ∈ hs.take 6, h < n := fun h q => lt h (List.mem_of_mem_take q)
    have l6 : (hs.take 6).length ≤ 6 := by rw [List.length_take]; omega
    generalize hs.take 6 = gs at f3 pw lt l6
    refine ⟨_, rfl, p, rfl, ⟨_, SqL.of f3⟩, ?_⟩
    refine comp_list (xs := gs.map fun h : Nat => V.int (h : Int)) (own := ["_law_hole"]) (cap := [0]) (fun i ys σ H' => ∃ (v : Option V) (ps : List (Nat × Nat)), σ = [v, some (.ref d)] ∧ ys.length = i ∧ ps.map (·.1) = gs.take i ∧ (∀ q ∈ ps, 1 ≤ q.2 ∧ q.2 ≤ 10) ∧ (∀ (j : Nat) (x : V), ys[j]? = some x → ∃ (b : Addr) (q : Nat × Nat), x = .ref b ∧ ps[j]? = some q ∧ H' b = some (.tup [.int (q.1 : Int), .int (q.2 : Int)])) ∧ H' p = some (.lst (gs.map fun h : Nat => V.int (h : Int))) ∧ Fd H' d ∧ SameB d H H')
      ⟨none, [], rfl, rfl, rfl, fun q h => (by cases h), fun j x e => (by simp at e), f3, F2, sb2⟩ (fun i ys σ H' hi ⟨_, _, _, e, _⟩ => by rw [e]; exact Nat.le_refl _) (by rw [List.length_map]; omega) (fun i ys σ H' ⟨_, _, _, _, _, _, _, e, _⟩ => SqL.of e) ?_ ?_
    · rintro i ys σ H3 y N hyi ⟨v, ps, rfl, e1, e2, e3, e4, f4, F3, sb3⟩ hN
      rw [List.getElem?_map] at hyi
      obtain ⟨h, hh, rfl⟩ := Option.map_eq_some_iff.mp hyi
      refine ⟨_, rfl, _, rfl, d, _, rfl, F3, by decide, by decide, fun r H4 r0 r1 F4 sb4 => ?_⟩
      obtain ⟨r, rfl⟩ := Int.eq_ofNat_of_zero_le r0
      refine ⟨_, _, rfl, rfl, (by show 2 ≤ sizeLine; omega), fun t ht => hN _ _ _ ⟨_, ps ++ [(h, 1 + r)], rfl, ?_, ?_, ?_, ?_, ?_, F4.new ht, ?_⟩⟩
      · rw [List.length_append, e1]; rfl
      · rw [List.map_append, e2, List.take_add_one, hh]; rfl
      · intro q hq
        rcases List.mem_append.mp hq with hq | hq
        · exact e3 q hq
        · rw [List.mem_singleton] at hq
          subst hq
          exact ⟨by show 1 ≤ 1 + r; omega, by show 1 + r ≤ 10; omega⟩
      · intro j x ex
        have pl : ps.length = i := by
          have := congrArg List.length e2
          rw [List.length_map, List.length_take] at this
          have := (List.getElem?_eq_some_iff.mp hh).1
          omega
        by_cases hj : j < ys.length
        · rw [List.getElem?_append_left hj] at ex
          obtain ⟨b, q, rfl, g1, g2⟩ := e4 j x ex
          refine ⟨b, q, rfl, by rw [List.getElem?_append_left (by omega)]; exact g1, ?_⟩
          have g3 := sb4 _ _ (F3.neT g2) g2
          rw [upd_ne (ne_of_none g3 ht)]
          exact g3
        · rw [List.getElem?_append_right (by omega)] at ex
          have hj0 : j - ys.length = 0 := by
            have := (List.getElem?_eq_some_iff.mp ex).1
            simp at this
            omega
          rw [hj0] at ex
          obtain rfl := Option.some.inj ex
          refine ⟨t, (h, 1 + r), rfl, ?_, ?_⟩
          · rw [List.getElem?_append_right (by omega), show j - ps.length = 0 by omega]
            rfl
          · rw [upd_same]
            show some (HO.tup [V.int (h : Int), V.int (1 + (r : Int))]) = some (HO.tup [V.int (h : Int), V.int ((1 + r : Nat) : Int)])
            rw [Int.natCast_add]
            rfl
      · have g := sb4 _ _ pd f4
        rw [upd_ne (ne_of_none g ht)]
        exact g
      · exact (sb3.trans sb4).trans (Same.new ht).b
    · rintro ys σ H3 q ⟨v, ps, rfl, e1, e2, e3, e4, f4, F3, sb3⟩ hq
      have s4 : Same H3 (upd H3 q (.lst ys)) := Same.new hq
      refine ⟨q, ys, rfl, .inl ⟨SqL.of upd_same, fun r hr => ?_⟩⟩
      have s5 := s4.trans (Same.new (o := .tup ys) hr)
      rw [List.length_map] at e1 e2
      rw [List.take_length] at e2
      have pl : ps.length = gs.length := by
        have := congrArg List.length e2
        rwa [List.length_map] at this
      have F5 := F3.same s5
      have hr0 : H r = none := by
        cases e : H r with
        | none => rfl
        | some o =>
          have := s4 _ _ (sb3 _ _ ((F3.same s4).ne hr) e)
          rw [hr] at this
          cases this
      refine k r _ ps hr0 ⟨⟨ys, upd_same, by omega, fun j x ex => ?_⟩, by omega, fun p hp => ?_⟩ (by rw [e2]; exact pw) F5 (sb3.trans s5.b)
      · obtain ⟨b, q, rfl, g1, g2⟩ := e4 j x ex
        exact ⟨b, q, rfl, g1, s5 _ _ g2⟩
      · refine ⟨lt p.1 ?_, e3 p hp⟩
        rw [← e2]
        exact List.mem_map.mpr ⟨p, hp, rfl⟩
end
end Kx
set_option Elab.async false
set_option linter.all false
set_option maxRecDepth 100000
set_option maxHeartbeats 0
namespace Kx
open PySem PySem.Spec PyProof.Rows L2 Wd
section
variable {P : Program} {w : World} {K : PySem.W.Frag} {mg : Str → Option Value} {base : Heap} {aB : Addr}
abbrev s_bent : Stmt := top 35
theorem sc_bent : FnScope ["_law_feed_here", "_law_many", "_law_caps_here", "_law_odd", "_law_one", "_law_at", "_law_some"] ["_law_feed_here", "_law_many", "_law_caps_here"] (defScope s_bent) := ⟨rfl, rfl, rfl, by decide +kernel, rfl, by decide +kernel, by decide +kernel⟩
theorem c_bent (D : Df K mg "_law_bent" s_bent) (T : Bt K w mg aB) (F_draw : Fnc P w K mg base "_law_draw" ["_law_feed_here", "_law_many"] 1 spDraw) : Fnc P w K mg base "_law_bent" ["_law_feed_here", "_law_many", "_law_caps_here"] 2 spBentC := by
  have sc := sc_bent
  refine D.ok sc (fun _ _ _ _ _ _ us hl => match us, hl with | [_, _, _], _ => rfl) (fun vs H Q E h => ?_) (fun f cdv A outer s H vs Q E hr h => ?_)
  · obtain ⟨d, p, n, ps, rfl, _⟩ := h
    rfl
  · obtain ⟨d, p, n, ps, rfl, F, h13, C0, k⟩ := h
    have l16 := line16
    refine ⟨_, (@pss_cons _ _ _ _ _ (@ps_set _ _ (3) _ _ _ _ sc.nd rfl (Or.inl rfl) (@pe_lst _ _ _ _ (@pa_c _ _ _ _ _ (@pe_tup _ _ _ _ _ (@pa_cons _ _ _ _ _ (pv 1) (@pa_cons _ _ _ _ _ pe_int pa_nil (by rfl)) (by rfl))) (@pa_c _ _ _ _ _ (@pe_tup _ _ _ _ _ (@pa_cons _ _ _ _ _ (@pe_un _ _ _ _ _ _ un_neg pe_int) (@pa_cons _ _ _ _ _ pe_int pa_nil (by rfl)) (by rfl))) (@pa_c _ _ _ _ _ (@pe_tup _ _ _ _ _ (@pa_cons _ _ _ _ _ pe_int (@pa_cons _ _ _ _ _ pe_int pa_nil (by rfl)) (by rfl))) (@pa_c _ _ _ _ _ (@pe_tup _ _ _ _ _ (@pa_cons _ _ _ _ _ pe_int (@pa_cons _ _ _ _ _ pe_int pa_nil (by rfl)) (by rfl))) (@pa_c _ _ _ _ _ (@pe_tup _ _ _ _ _ (@pa_cons _ _ _ _ _ pe_int (@pa_cons _ _ _ _ _ pe_bl pa_nil (by rfl)) (by rfl))) (@pa_c _ _ _ _ _ (@pe_tup _ _ _ _ _ (@pa_cons _ _ _ _ _ pe_bl (@pa_cons _ _ _ _ _ pe_int pa_nil (by rfl)) (by rfl))) (@pa_c _ _ _ _ _ (@pe_tup _ _ _ _ _ (@pa_cons _ _ _ _ _ pe_int (@pa_cons _ _ _ _ _ pe_str pa_nil (by rfl)) (by rfl))) (@pa_c _ _ _ _ _ (@pe_lst _ _ _ _ (@pa_cons _ _ _ _ _ pe_int (@pa_cons _ _ _ _ _ pe_int pa_nil (by rfl)) (by rfl))) (@pa_c _ _ _ _ _ (@pe_tup _ _ _ _ _ (@pa_cons _ _ _ _ _ pe_int pa_nil (by rfl))) (@pa_c _ _ _ _ _ (@pe_tup _ _ _ _ _ (@pa_cons _ _ _ _ _ pe_int (@pa_cons _ _ _ _ _ pe_int (@pa_cons _ _ _ _ _ pe_int pa_nil (by rfl)) (by rfl)) (by rfl))) (@pa_c _ _ _ _ _ pe_non (@pa_c _ _ _ _ _ pe_int pa_nil (by rfl)) (by rfl)) (by rfl)) (by rfl)) (by rfl)) (by rfl)) (by rfl)) (by rfl)) (by rfl)) (by rfl)) (by rfl)) (by rfl))) (by rfl) (by first | exact .inl rfl | exact .inr rfl | assumption)) (@pss_cons _ _ _ _ _ (@ps_set _ _ (3) _ _ _ _ sc.nd rfl (Or.inl rfl) (@pe_op _ _ _ _ _ _ _ _ op_cat (pv 3) (@pe_lst _ _ _ _ (@pa_c _ _ _ _ _ (@pe_tup _ _ _ _ _ (@pa_cons _ _ _ _ _ pe_int (@pa_cons _ _ _ _ _ pe_int pa_nil (by rfl)) (by rfl))) (@pa_c _ _ _ _ _ (@pe_tup _ _ _ _ _ (@pa_cons _ _ _ _ _ (@pe_op _ _ _ _ _ _ _ _ op_sub (pv 1) pe_int) (@pa_cons _ _ _ _ _ pe_int pa_nil (by rfl)) (by rfl))) (@pa_c _ _ _ _ _ (@pe_tup _ _ _ _ _ (@pa_cons _ _ _ _ _ (@pe_op _ _ _ _ _ _ _ _ op_sub (pv 1) pe_int) (@pa_cons _ _ _ _ _ pe_int pa_nil (by rfl)) (by rfl))) (@pa_c _ _ _ _ _ (@pe_tup _ _ _ _ _ (@pa_cons _ _ _ _ _ pe_int (@pa_cons _ _ _ _ _ (@pe_op _ _ _ _ _ _ _ _ op_pow pe_int pe_int) pa_nil (by rfl)) (by rfl))) (@pa_c _ _ _ _ _ (@pe_tup _ _ _ _ _ (@pa_cons _ _ _ _ _ pe_str (@pa_cons _ _ _ _ _ pe_int pa_nil (by rfl)) (by rfl))) (@pa_c _ _ _ _ _ (@pe_tup _ _ _ _ _ (@pa_cons _ _ _ _ _ pe_int (@pa_cons _ _ _ _ _ (@pe_un _ _ _ _ _ _ un_neg pe_int) pa_nil (by rfl)) (by rfl))) pa_nil (by rfl)) (by rfl)) (by rfl)) (by rfl)) (by rfl)) (by rfl)))) (by rfl) (by first | exact .inl rfl | exact .inr rfl | assumption)) (@pss_cons _ _ _ _ _ (@ps_set _ _ (4) _ _ _ _ sc.nd rfl (Or.inl rfl) (@pe_ix _ _ _ _ _ _ _ ix_list (pv 3) (@pe_fn _ _ _ _ _ _ _ _ _ _ _ F_draw hr (by decide) rfl (@pa_cons _ _ _ _ _ (pv 0) (@pa_cons _ _ _ _ _ pe_int pa_nil (by rfl)) (by rfl)) (by decide) (by rfl) (by rfl)) (fun _ _ => rfl)) (by rfl) (by first | exact .inl rfl | exact .inr rfl | assumption)) (@pss_cons _ _ _ _ _ (@ps_set _ _ (5) _ _ _ _ sc.nd rfl (Or.inl rfl) (@pe_fn _ _ _ _ _ _ _ _ _ _ _ F_draw hr (by decide) rfl (@pa_cons _ _ _ _ _ (pv 0) (@pa_cons _ _ _ _ _ (@pe_op _ _ _ _ _ _ _ _ op_add (@pe_callB _ _ _ _ _ _ _ _ _ call_len_seq (by rfl) T.len PySem.boot_len (@pa_cons _ _ _ _ _ (pv 2) pa_nil (by rfl)) (by decide) (by decide) (by rfl) (by rfl)) pe_int) pa_nil (by rfl)) (by rfl)) (by decide) (by rfl) (by rfl)) (by rfl) (by first | exact .inl rfl | exact .inr rfl | assumption)) (@pss_cons _ _ _ _ _ (@ps_set _ _ (6) _ _ _ _ sc.nd rfl (Or.inl rfl) (@pe_lst _ _ _ _ (@pa_cons _ _ _ _ _ (@pe_op _ _ _ _ _ _ _ _ op_catU (@pe_op _ _ _ _ _ _ _ _ op_catU (@pe_slice _ _ _ _ _ _ _ _ _ _ sl_tupU (pv 2) po_none (@po_some _ _ _ (pv 5))) (@pe_tup _ _ _ _ _ (@pa_cons _ _ _ _ _ (pv 4) pa_nil (by rfl)))) (@pe_slice _ _ _ _ _ _ _ _ _ _ sl_tupU (pv 2) (@po_some _ _ _ (pv 5)) po_none)) (@pa_cons _ _ _ _ _ (@pe_op _ _ _ _ _ _ _ _ op_catU (@pe_op _ _ _ _ _ _ _ _ op_catU (@pe_slice _ _ _ _ _ _ _ _ _ _ sl_tupU (pv 2) po_none (@po_some _ _ _ (pv 5))) (@pe_tup _ _ _ _ _ (@pa_cons _ _ _ _ _ (pv 4) pa_nil (by rfl)))) (@pe_slice _ _ _ _ _ _ _ _ _ _ sl_tupU (pv 2) (@po_some _ _ _ (@pe_op _ _ _ _ _ _ _ _ op_add (pv 5) pe_int)) po_none)) (@pa_cons _ _ _ _ _ (@pe_revT _ _ _ _ _ _ _ (pv 2) (@pe_un _ _ _ _ _ _ un_neg pe_int)) (@pa_cons _ _ _ _ _ (@pe_op _ _ _ _ _ _ _ _ op_catU (pv 2) (@pe_slice _ _ _ _ _ _ _ _ _ _ sl_tupU (pv 2) po_none (@po_some _ _ _ pe_int))) pa_nil (by rfl)) (by rfl)) (by rfl)) (by rfl))) (by rfl) (by first | exact .inl rfl | exact .inr rfl | assumption)) (@pss_one _ _ _ (@ps_ret _ _ _ _ (@pe_ix _ _ _ _ _ _ _ ix_list (@pe_op _ _ _ _ _ _ _ _ op_cat (pv 6) (@pe_lst _ _ _ _ (@pa_cons _ _ _ _ _ (@pe_callTy _ _ _ _ _ _ _ _ _ call_list_of (by rfl) T.list b_list (@pa_cons _ _ _ _ _ (pv 2) pa_nil (by rfl)) (by decide) (by decide) (by rfl) (by rfl)) (@pa_cons _ _ _ _ _ (pv 4) (@pa_cons _ _ _ _ _ (@pe_tup _ _ _ _ _ (@pa_cons _ _ _ _ _ (pv 2) pa_nil (by rfl))) pa_nil (by rfl)) (by rfl)) (by rfl)))) (@pe_fn _ _ _ _ _ _ _ _ _ _ _ F_draw hr (by decide) rfl (@pa_cons _ _ _ _ _ (pv 0) (@pa_cons _ _ _ _ _ pe_int pa_nil (by rfl)) (by rfl)) (by decide) (by rfl) (by rfl)) (fun _ _ => rfl))))))))), ?_⟩
    have F0 := F
    have S0 : Same H H := Same.refl H
    refine ⟨_, rfl, (by show 2 ≤ sizeLine; omega), fun p0 h0 => ?_⟩
    have s0 : Same H (upd H p0 (.tup [.int (n : Int), .int 1])) := Same.new h0
    have f0 : (upd H p0 (.tup [.int (n : Int), .int 1])) p0 = some (.tup [.int (n : Int), .int 1]) := upd_same
    replace S0 := S0.trans s0
    generalize upd H p0 (.tup [.int (n : Int), .int 1]) = G0 at s0 f0  S0 ⊢
    clear s0 h0
    refine ⟨_, rfl, (by show 2 ≤ sizeLine; omega), fun p1 h1 => ?_⟩
    have s1 : Same G0 (upd G0 p1 (.tup [.int (-1), .int 1])) := Same.new h1
    have f1 : (upd G0 p1 (.tup [.int (-1), .int 1])) p1 = some (.tup [.int (-1), .int 1]) := upd_same
    replace f0 := s1 _ _ f0
    replace S0 := S0.trans s1
    generalize upd G0 p1 (.tup [.int (-1), .int 1]) = G1 at s1 f1 f0 S0 ⊢
    clear s1 h1
    refine ⟨(by show 2 ≤ sizeLine; omega), fun p2 h2 => ?_⟩
    have s2 : Same G1 (upd G1 p2 (.tup [.int 0, .int 0])) := Same.new h2
    have f2 : (upd G1 p2 (.tup [.int 0, .int 0])) p2 = some (.tup [.int 0, .int 0]) := upd_same
    replace f0 := s2 _ _ f0
    replace f1 := s2 _ _ f1
    replace S0 := S0.trans s2
    generalize upd G1 p2 (.tup [.int 0, .int 0]) = G2 at s2 f2 f0 f1 S0 ⊢
    clear s2 h2
    refine ⟨(by show 2 ≤ sizeLine; omega), fun p3 h3 => ?_⟩
    have s3 : Same G2 (upd G2 p3 (.tup [.int 0, .int 11])) := Same.new h3
    have f3 : (upd G2 p3 (.tup [.int 0, .int 11])) p3 = some (.tup [.int 0, .int 11]) := upd_same
    replace f0 := s3 _ _ f0
    replace f1 := s3 _ _ f1
    replace f2 := s3 _ _ f2
    replace S0 := S0.trans s3
    generalize upd G2 p3 (.tup [.int 0, .int 11]) = G3 at s3 f3 f0 f1 f2 S0 ⊢
    clear s3 h3
    refine ⟨(by show 2 ≤ sizeLine; omega), fun p4 h4 => ?_⟩
    have s4 : Same G3 (upd G3 p4 (.tup [.int 0, .bl true])) := Same.new h4
    have f4 : (upd G3 p4 (.tup [.int 0, .bl true])) p4 = some (.tup [.int 0, .bl true]) := upd_same
    replace f0 := s4 _ _ f0
    replace f1 := s4 _ _ f1
    replace f2 := s4 _ _ f2
    replace f3 := s4 _ _ f3
    replace S0 := S0.trans s4
    generalize upd G3 p4 (.tup [.int 0, .bl true]) = G4 at s4 f4 f0 f1 f2 f3 S0 ⊢
    clear s4 h4
    refine ⟨(by show 2 ≤ sizeLine; omega), fun p5 h5 => ?_⟩
    have s5 : Same G4 (upd G4 p5 (.tup [.bl true, .int 1])) := Same.new h5
    have f5 : (upd G4 p5 (.tup [.bl true, .int 1])) p5 = some (.tup [.bl true, .int 1]) := upd_same
    replace f0 := s5 _ _ f0
    replace f1 := s5 _ _ f1
    replace f2 := s5 _ _ f2
    replace f3 := s5 _ _ f3
    replace f4 := s5 _ _ f4
    replace S0 := S0.trans s5
    generalize upd G4 p5 (.tup [.bl true, .int 1]) = G5 at s5 f5 f0 f1 f2 f3 f4 S0 ⊢
    clear s5 h5
    refine ⟨(by show 2 ≤ sizeLine; omega), fun p6 h6 => ?_⟩
    have s6 : Same G5 (upd G5 p6 (.tup [.int 0, .str "1"])) := Same.new h6
    have f6 : (upd G5 p6 (.tup [.int 0, .str "1"])) p6 = some (.tup [.int 0, .str "1"]) := upd_same
    replace f0 := s6 _ _ f0
    replace f1 := s6 _ _ f1
    replace f2 := s6 _ _ f2
    replace f3 := s6 _ _ f3
    replace f4 := s6 _ _ f4
    replace f5 := s6 _ _ f5
    replace S0 := S0.trans s6
    generalize upd G5 p6 (.tup [.int 0, .str "1"]) = G6 at s6 f6 f0 f1 f2 f3 f4 f5 S0 ⊢
    clear s6 h6
    refine ⟨(by show 2 ≤ sizeLine; omega), fun p7 h7 => ?_⟩
    have s7 : Same G6 (upd G6 p7 (.lst [.int 0, .int 1])) := Same.new h7
    have f7 : (upd G6 p7 (.lst [.int 0, .int 1])) p7 = some (.lst [.int 0, .int 1]) := upd_same
    replace f0 := s7 _ _ f0
    replace f1 := s7 _ _ f1
    replace f2 := s7 _ _ f2
    replace f3 := s7 _ _ f3
    replace f4 := s7 _ _ f4
    replace f5 := s7 _ _ f5
    replace f6 := s7 _ _ f6
    replace S0 := S0.trans s7
    generalize upd G6 p7 (.lst [.int 0, .int 1]) = G7 at s7 f7 f0 f1 f2 f3 f4 f5 f6 S0 ⊢
    clear s7 h7
    refine ⟨(by show 1 ≤ sizeLine; omega), fun p8 h8 => ?_⟩
    have s8 : Same G7 (upd G7 p8 (.tup [.int 0])) := Same.new h8
    have f8 : (upd G7 p8 (.tup [.int 0])) p8 = some (.tup [.int 0]) := upd_same
    replace f0 := s8 _ _ f0
    replace f1 := s8 _ _ f1
    replace f2 := s8 _ _ f2
    replace f3 := s8 _ _ f3
    replace f4 := s8 _ _ f4
    replace f5 := s8 _ _ f5
    replace f6 := s8 _ _ f6
    replace f7 := s8 _ _ f7
    replace S0 := S0.trans s8
    generalize upd G7 p8 (.tup [.int 0]) = G8 at s8 f8 f0 f1 f2 f3 f4 f5 f6 f7 S0 ⊢
    clear s8 h8
    refine ⟨(by show 3 ≤ sizeLine; omega), fun p9 h9 => ?_⟩
    have s9 : Same G8 (upd G8 p9 (.tup [.int 0, .int 1, .int 1])) := Same.new h9
    have f9 : (upd G8 p9 (.tup [.int 0, .int 1, .int 1])) p9 = some (.tup [.int 0, .int 1, .int 1]) := upd_same
    replace f0 := s9 _ _ f0
    replace f1 := s9 _ _ f1
    replace f2 := s9 _ _ f2
    replace f3 := s9 _ _ f3
    replace f4 := s9 _ _ f4
    replace f5 := s9 _ _ f5
    replace f6 := s9 _ _ f6
    replace f7 := s9 _ _ f7
    replace f8 := s9 _ _ f8
    replace S0 := S0.trans s9
    generalize upd G8 p9 (.tup [.int 0, .int 1, .int 1]) = G9 at s9 f9 f0 f1 f2 f3 f4 f5 f6 f7 f8 S0 ⊢
    clear s9 h9
    refine ⟨(by show 12 ≤ sizeLine; omega), fun p10 h10 => ?_⟩
    have s10 : Same G9 (upd G9 p10 (.lst [.ref p0, .ref p1, .ref p2, .ref p3, .ref p4, .ref p5, .ref p6, .ref p7, .ref p8, .ref p9, .non, .int 0])) := Same.new h10
    have f10 : (upd G9 p10 (.lst [.ref p0, .ref p1, .ref p2, .ref p3, .ref p4, .ref p5, .ref p6, .ref p7, .ref p8, .ref p9, .non, .int 0])) p10 = some (.lst [.ref p0, .ref p1, .ref p2, .ref p3, .ref p4, .ref p5, .ref p6, .ref p7, .ref p8, .ref p9, .non, .int 0]) := upd_same
    replace f0 := s10 _ _ f0
    replace f1 := s10 _ _ f1
    replace f2 := s10 _ _ f2
    replace f3 := s10 _ _ f3
    replace f4 := s10 _ _ f4
    replace f5 := s10 _ _ f5
    replace f6 := s10 _ _ f6
    replace f7 := s10 _ _ f7
    replace f8 := s10 _ _ f8
    replace f9 := s10 _ _ f9
    replace S0 := S0.trans s10
    generalize upd G9 p10 (.lst [.ref p0, .ref p1, .ref p2, .ref p3, .ref p4, .ref p5, .ref p6, .ref p7, .ref p8, .ref p9, .non, .int 0]) = G10 at s10 f10 f0 f1 f2 f3 f4 f5 f6 f7 f8 f9 S0 ⊢
    clear s10 h10
    refine ⟨_, rfl, ?_⟩
    refine ⟨(by show 2 ≤ sizeLine; omega), fun p11 h11 => ?_⟩
    have s11 : Same G10 (upd G10 p11 (.tup [.int 1, .int 10])) := Same.new h11
    have f11 : (upd G10 p11 (.tup [.int 1, .int 10])) p11 = some (.tup [.int 1, .int 10]) := upd_same
    replace f0 := s11 _ _ f0
    replace f1 := s11 _ _ f1
    replace f2 := s11 _ _ f2
    replace f3 := s11 _ _ f3
    replace f4 := s11 _ _ f4
    replace f5 := s11 _ _ f5
    replace f6 := s11 _ _ f6
    replace f7 := s11 _ _ f7
    replace f8 := s11 _ _ f8
    replace f9 := s11 _ _ f9
    replace f10 := s11 _ _ f10
    replace S0 := S0.trans s11
    generalize upd G10 p11 (.tup [.int 1, .int 10]) = G11 at s11 f11 f0 f1 f2 f3 f4 f5 f6 f7 f8 f9 f10 S0 ⊢
    clear s11 h11
    refine ⟨_, rfl, _, _, rfl, rfl, (by show 2 ≤ sizeLine; omega), fun p12 h12 => ?_⟩
    have s12 : Same G11 (upd G11 p12 (.tup [.int ((n : Int) - 1), .int 10])) := Same.new h12
    have f12 : (upd G11 p12 (.tup [.int ((n : Int) - 1), .int 10])) p12 = some (.tup [.int ((n : Int) - 1), .int 10]) := upd_same
    replace f0 := s12 _ _ f0
    replace f1 := s12 _ _ f1
    replace f2 := s12 _ _ f2
    replace f3 := s12 _ _ f3
    replace f4 := s12 _ _ f4
    replace f5 := s12 _ _ f5
    replace f6 := s12 _ _ f6
    replace f7 := s12 _ _ f7
    replace f8 := s12 _ _ f8
    replace f9 := s12 _ _ f9
    replace f10 := s12 _ _ f10
    replace f11 := s12 _ _ f11
    replace S0 := S0.trans s12
    generalize upd G11 p12 (.tup [.int ((n : Int) - 1), .int 10]) = G12 at s12 f12 f0 f1 f2 f3 f4 f5 f6 f7 f8 f9 f10 f11 S0 ⊢
    clear s12 h12
    refine ⟨_, rfl, _, _, rfl, rfl, (by show 2 ≤ sizeLine; omega), fun p13 h13 => ?_⟩
    have s13 : Same G12 (upd G12 p13 (.tup [.int ((n : Int) - 1), .int 11])) := Same.new h13
    have f13 : (upd G12 p13 (.tup [.int ((n : Int) - 1), .int 11])) p13 = some (.tup [.int ((n : Int) - 1), .int 11]) := upd_same
    replace f0 := s13 _ _ f0
    replace f1 := s13 _ _ f1
    replace f2 := s13 _ _ f2
    replace f3 := s13 _ _ f3
    replace f4 := s13 _ _ f4
    replace f5 := s13 _ _ f5
    replace f6 := s13 _ _ f6
    replace f7 := s13 _ _ f7
    replace f8 := s13 _ _ f8
    replace f9 := s13 _ _ f9
    replace f10 := s13 _ _ f10
    replace f11 := s13 _ _ f11
    replace f12 := s13 _ _ f12
    replace S0 := S0.trans s13
    generalize upd G12 p13 (.tup [.int ((n : Int) - 1), .int 11]) = G13 at s13 f13 f0 f1 f2 f3 f4 f5 f6 f7 f8 f9 f10 f11 f12 S0 ⊢
    clear s13 h13
    refine ⟨_, _, rfl, rfl, ⟨by decide, by decide, by decide⟩, (by show 2 ≤ sizeLine; omega), fun p14 h14 => ?_⟩
    have s14 : Same G13 (upd G13 p14 (.tup [.int 0, .int (10 ^ (30 : Int).toNat)])) := Same.new h14
    have f14 : (upd G13 p14 (.tup [.int 0, .int (10 ^ (30 : Int).toNat)])) p14 = some (.tup [.int 0, .int (10 ^ (30 : Int).toNat)]) := upd_same
    replace f0 := s14 _ _ f0
    replace f1 := s14 _ _ f1
    replace f2 := s14 _ _ f2
    replace f3 := s14 _ _ f3
    replace f4 := s14 _ _ f4
    replace f5 := s14 _ _ f5
    replace f6 := s14 _ _ f6
    replace f7 := s14 _ _ f7
    replace f8 := s14 _ _ f8
    replace f9 := s14 _ _ f9
    replace f10 := s14 _ _ f10
    replace f11 := s14 _ _ f11
    replace f12 := s14 _ _ f12
    replace f13 := s14 _ _ f13
    replace S0 := S0.trans s14
    generalize upd G13 p14 (.tup [.int 0, .int (10 ^ (30 : Int).toNat)]) = G14 at s14 f14 f0 f1 f2 f3 f4 f5 f6 f7 f8 f9 f10 f11 f12 f13 S0 ⊢
    clear s14 h14
    refine ⟨(by show 2 ≤ sizeLine; omega), fun p15 h15 => ?_⟩
    have s15 : Same G14 (upd G14 p15 (.tup [.str "0", .int 1])) := Same.new h15
    have f15 : (upd G14 p15 (.tup [.str "0", .int 1])) p15 = some (.tup [.str "0", .int 1]) := upd_same
    replace f0 := s15 _ _ f0
    replace f1 := s15 _ _ f1
    replace f2 := s15 _ _ f2
    replace f3 := s15 _ _ f3
    replace f4 := s15 _ _ f4
    replace f5 := s15 _ _ f5
    replace f6 := s15 _ _ f6
    replace f7 := s15 _ _ f7
    replace f8 := s15 _ _ f8
    replace f9 := s15 _ _ f9
    replace f10 := s15 _ _ f10
    replace f11 := s15 _ _ f11
    replace f12 := s15 _ _ f12
    replace f13 := s15 _ _ f13
    replace f14 := s15 _ _ f14
    replace S0 := S0.trans s15
    generalize upd G14 p15 (.tup [.str "0", .int 1]) = G15 at s15 f15 f0 f1 f2 f3 f4 f5 f6 f7 f8 f9 f10 f11 f12 f13 f14 S0 ⊢
    clear s15 h15
    refine ⟨_, rfl, (by show 2 ≤ sizeLine; omega), fun p16 h16 => ?_⟩
    have s16 : Same G15 (upd G15 p16 (.tup [.int 0, .int (-1)])) := Same.new h16
    have f16 : (upd G15 p16 (.tup [.int 0, .int (-1)])) p16 = some (.tup [.int 0, .int (-1)]) := upd_same
    replace f0 := s16 _ _ f0
    replace f1 := s16 _ _ f1
    replace f2 := s16 _ _ f2
    replace f3 := s16 _ _ f3
    replace f4 := s16 _ _ f4
    replace f5 := s16 _ _ f5
    replace f6 := s16 _ _ f6
    replace f7 := s16 _ _ f7
    replace f8 := s16 _ _ f8
    replace f9 := s16 _ _ f9
    replace f10 := s16 _ _ f10
    replace f11 := s16 _ _ f11
    replace f12 := s16 _ _ f12
    replace f13 := s16 _ _ f13
    replace f14 := s16 _ _ f14
    replace f15 := s16 _ _ f15
    replace S0 := S0.trans s16
    generalize upd G15 p16 (.tup [.int 0, .int (-1)]) = G16 at s16 f16 f0 f1 f2 f3 f4 f5 f6 f7 f8 f9 f10 f11 f12 f13 f14 f15 S0 ⊢
    clear s16 h16
    refine ⟨(by show 6 ≤ sizeLine; omega), fun p17 h17 => ?_⟩
    have s17 : Same G16 (upd G16 p17 (.lst [.ref p11, .ref p12, .ref p13, .ref p14, .ref p15, .ref p16])) := Same.new h17
    have f17 : (upd G16 p17 (.lst [.ref p11, .ref p12, .ref p13, .ref p14, .ref p15, .ref p16])) p17 = some (.lst [.ref p11, .ref p12, .ref p13, .ref p14, .ref p15, .ref p16]) := upd_same
    replace f0 := s17 _ _ f0
    replace f1 := s17 _ _ f1
    replace f2 := s17 _ _ f2
    replace f3 := s17 _ _ f3
    replace f4 := s17 _ _ f4
    replace f5 := s17 _ _ f5
    replace f6 := s17 _ _ f6
    replace f7 := s17 _ _ f7
    replace f8 := s17 _ _ f8
    replace f9 := s17 _ _ f9
    replace f10 := s17 _ _ f10
    replace f11 := s17 _ _ f11
    replace f12 := s17 _ _ f12
    replace f13 := s17 _ _ f13
    replace f14 := s17 _ _ f14
    replace f15 := s17 _ _ f15
    replace f16 := s17 _ _ f16
    replace S0 := S0.trans s17
    generalize upd G16 p17 (.lst [.ref p11, .ref p12, .ref p13, .ref p14, .ref p15, .ref p16]) = G17 at s17 f17 f0 f1 f2 f3 f4 f5 f6 f7 f8 f9 f10 f11 f12 f13 f14 f15 f16 S0 ⊢
    clear s17 h17
    refine ⟨p10, p17, _, _, rfl, rfl, f10, f17, (by show 12 + 6 ≤ sizeLine; omega), fun p18 h18 => ?_⟩
    have s18 : Same G17 (upd G17 p18 (.lst ([.ref p0, .ref p1, .ref p2, .ref p3, .ref p4, .ref p5, .ref p6, .ref p7, .ref p8, .ref p9, .non, .int 0] ++ [.ref p11, .ref p12, .ref p13, .ref p14, .ref p15, .ref p16]))) := Same.new h18
    have f18 : (upd G17 p18 (.lst ([.ref p0, .ref p1, .ref p2, .ref p3, .ref p4, .ref p5, .ref p6, .ref p7, .ref p8, .ref p9, .non, .int 0] ++ [.ref p11, .ref p12, .ref p13, .ref p14, .ref p15, .ref p16]))) p18 = some (.lst ([.ref p0, .ref p1, .ref p2, .ref p3, .ref p4, .ref p5, .ref p6, .ref p7, .ref p8, .ref p9, .non, .int 0] ++ [.ref p11, .ref p12, .ref p13, .ref p14, .ref p15, .ref p16])) := upd_same
    replace f0 := s18 _ _ f0
    replace f1 := s18 _ _ f1
    replace f2 := s18 _ _ f2
    replace f3 := s18 _ _ f3
    replace f4 := s18 _ _ f4
    replace f5 := s18 _ _ f5
    replace f6 := s18 _ _ f6
    replace f7 := s18 _ _ f7
    replace f8 := s18 _ _ f8
    replace f9 := s18 _ _ f9
    replace f10 := s18 _ _ f10
    replace f11 := s18 _ _ f11
    replace f12 := s18 _ _ f12
    replace f13 := s18 _ _ f13
    replace f14 := s18 _ _ f14
    replace f15 := s18 _ _ f15
    replace f16 := s18 _ _ f16
    replace f17 := s18 _ _ f17
    replace S0 := S0.trans s18
    generalize upd G17 p18 (.lst ([.ref p0, .ref p1, .ref p2, .ref p3, .ref p4, .ref p5, .ref p6, .ref p7, .ref p8, .ref p9, .non, .int 0] ++ [.ref p11, .ref p12, .ref p13, .ref p14, .ref p15, .ref p16])) = G18 at s18 f18 f0 f1 f2 f3 f4 f5 f6 f7 f8 f9 f10 f11 f12 f13 f14 f15 f16 f17 S0 ⊢
    clear s18 h18
    have all : ∀ y ∈ ([.ref p0, .ref p1, .ref p2, .ref p3, .ref p4, .ref p5, .ref p6, .ref p7, .ref p8, .ref p9, .non, .int 0] ++ [.ref p11, .ref p12, .ref p13, .ref p14, .ref p15, .ref p16] : List V), OddC G18 y :=
      (thf_cons (oddc_tup f0 (.cons (.int _) (lf_int (by omega) (by omega)).1 (.cons (.int _) (lf_int (by omega) (by omega)).1 .nil)) (by simp))
      (thf_cons (oddc_tup f1 (.cons (.int _) (lf_int (by omega) (by omega)).1 (.cons (.int _) (lf_int (by omega) (by omega)).1 .nil)) (by simp))
      (thf_cons (oddc_tup f2 (.cons (.int _) (lf_int (by omega) (by omega)).1 (.cons (.int _) (lf_int (by omega) (by omega)).1 .nil)) (by simp))
      (thf_cons (oddc_tup f3 (.cons (.int _) (lf_int (by omega) (by omega)).1 (.cons (.int _) (lf_int (by omega) (by omega)).1 .nil)) (by simp))
      (thf_cons (oddc_tup f4 (.cons (.int _) (lf_int (by omega) (by omega)).1 (.cons (.bl true) (lf_bl true) .nil)) (by simp))
      (thf_cons (oddc_tup f5 (.cons (.bl true) (lf_bl true) (.cons (.int _) (lf_int (by omega) (by omega)).1 .nil)) (by simp))
      (thf_cons (oddc_tup f6 (.cons (.int _) (lf_int (by omega) (by omega)).1 (.cons (.str _) (lf_str (by decide +kernel) (by decide +kernel)) .nil)) (by simp))
      (thf_cons (oddc_lst f7 (.cons (.int _) (lf_int (by omega) (by omega)).1 (.cons (.int _) (lf_int (by omega) (by omega)).1 .nil)) (by simp))
      (thf_cons (oddc_tup f8 (.cons (.int _) (lf_int (by omega) (by omega)).1 .nil) (by simp))
      (thf_cons (oddc_tup f9 (.cons (.int _) (lf_int (by omega) (by omega)).1 (.cons (.int _) (lf_int (by omega) (by omega)).1 (.cons (.int _) (lf_int (by omega) (by omega)).1 .nil))) (by simp))
      (thf_cons (oddc_one .non lf_non (by intro a e; cases e))
      (thf_cons (oddc_one (.int 0) (lf_int (by omega) (by omega)).1 (by intro a e; cases e))
      (thf_cons (oddc_tup f11 (.cons (.int _) (lf_int (by omega) (by omega)).1 (.cons (.int _) (lf_int (by omega) (by omega)).1 .nil)) (by simp))
      (thf_cons (oddc_tup f12 (.cons (.int _) (lf_int (by omega) (by omega)).1 (.cons (.int _) (lf_int (by omega) (by omega)).1 .nil)) (by simp))
      (thf_cons (oddc_tup f13 (.cons (.int _) (lf_int (by omega) (by omega)).1 (.cons (.int _) (lf_int (by omega) (by omega)).1 .nil)) (by simp))
      (thf_cons (oddc_tup f14 (.cons (.int _) (lf_int (by omega) (by omega)).1 (.cons (.int _) lf_big .nil)) (by simp))
      (thf_cons (oddc_tup f15 (.cons (.str _) (lf_str (by decide +kernel) (by decide +kernel)) (.cons (.int _) (lf_int (by omega) (by omega)).1 .nil)) (by simp))
      (thf_cons (oddc_tup f16 (.cons (.int _) (lf_int (by omega) (by omega)).1 (.cons (.int _) (lf_int (by omega) (by omega)).1 .nil)) (by simp))
      thf_nil))))))))))))))))))
    have ll : ([.ref p0, .ref p1, .ref p2, .ref p3, .ref p4, .ref p5, .ref p6, .ref p7, .ref p8, .ref p9, .non, .int 0] ++ [.ref p11, .ref p12, .ref p13, .ref p14, .ref p15, .ref p16] : List V).length = 18 := rfl
    clear f0 f1 f2 f3 f4 f5 f6 f7 f8 f9 f10 f11 f12 f13 f14 f15 f16 f17
    generalize ([.ref p0, .ref p1, .ref p2, .ref p3, .ref p4, .ref p5, .ref p6, .ref p7, .ref p8, .ref p9, .non, .int 0] ++ [.ref p11, .ref p12, .ref p13, .ref p14, .ref p15, .ref p16] : List V) = Xs at all ll f18 ⊢
    have C1 := C0.same S0
    have F1 := F0.same S0
    refine ⟨_, rfl, _, rfl, d, _, rfl, F1, by decide, by decide, fun r H1 r0 r1 F2 sb1 => ?_⟩
    obtain ⟨y, hy, hm⟩ := at_mem (xs := Xs) r0 (by omega)
    have C2 := C1.sb F1 sb1
    have od : OddC H1 y := (all y hm).mono (fun _ _ e => sb1 _ _ (F1.nl e) e) fun _ _ e => sb1 _ _ (F1.neT e) e
    refine ⟨p18, _, _, y, rfl, rfl, SqL.of (sb1 _ _ (F1.nl f18) f18), hy, ?_⟩
    have SB1 : SameB d H H1 := S0.b.trans sb1
    clear all f18 hm hy C1 F1 sb1 S0
    obtain ⟨xs0, hx0, hxl0, _⟩ := C2.parts h13
    have h6 := C2.le
    refine ⟨_, rfl, _, rfl, p, xs0, rfl, .inr (SqT.of hx0), _, _, rfl, rfl, d, _, rfl, F2, by omega, by omega, fun t H2 t0 t1 F3 sb2 => ?_⟩
    obtain ⟨at', rfl⟩ := Int.eq_ofNat_of_zero_le t0
    have C3 := C2.sb F2 sb2
    replace od : OddC H2 y := od.mono (fun _ _ e => sb2 _ _ (F2.nl e) e) fun _ _ e => sb2 _ _ (F2.neT e) e
    have SB2 : SameB d H H2 := SB1.trans sb2
    obtain ⟨xs, hx, hxl, pt⟩ := C3.parts h13
    have hl6 : xs.length ≤ 6 := by omega
    have PW : Prts H2 xs := fun x hx => let ⟨d, a, b, _⟩ := pt x hx; ⟨d, a, b.sm⟩
    have lc : ∀ lo hi, (cutV xs lo hi).length ≤ 6 := fun lo hi => by have := cutV_length xs lo hi; omega
    -- the first
    refine ⟨_, rfl, _, rfl, _, rfl, p, _, rfl, hx, fun q1 Ha s_a ha => ⟨_, rfl, (by show 1 ≤ sizeLine; omega), fun q2 hq2 => ⟨q1, q2, _, _, rfl, rfl, (Same.new hq2) _ _ ha, upd_same, (by have := lc none (some (at' : Int)); simp only [List.length_singleton]; omega), fun q3 Hb s_b hb => ?_⟩⟩⟩
    have s1 : Same H2 Hb := s_a.trans ((Same.new hq2).trans s_b)
    refine ⟨_, rfl, _, rfl, _, rfl, p, _, rfl, s1 _ _ hx, fun q4 Hc s_c hc => ⟨q3, q4, _, _, rfl, rfl, s_c _ _ hb, hc, (by have h1 := lc none (some (at' : Int)); have h2 := lc (some (at' : Int)) none; simp only [List.length_append, List.length_singleton]; omega), fun q5 Hd s_d hd => ?_⟩⟩
    have s2 : Same H2 Hd := s1.trans (s_c.trans s_d)
    -- the second
    refine ⟨_, rfl, _, rfl, _, rfl, p, _, rfl, s2 _ _ hx, fun q6 He s_e he => ⟨_, rfl, (by show 1 ≤ sizeLine; omega), fun q7 hq7 => ⟨q6, q7, _, _, rfl, rfl, (Same.new hq7) _ _ he, upd_same, (by have := lc none (some (at' : Int)); simp only [List.length_singleton]; omega), fun q8 Hf s_f hf => ?_⟩⟩⟩
    have s3 : Same Hd Hf := s_e.trans ((Same.new hq7).trans s_f)
    refine ⟨_, rfl, _, rfl, _, _, rfl, rfl, _, rfl, p, _, rfl, s3 _ _ (s2 _ _ hx), fun q9 Hg s_g hg => ⟨q8, q9, _, _, rfl, rfl, s_g _ _ hf, hg, (by have h1 := lc none (some (at' : Int)); have h2 := lc (some ((at' : Int) + 1)) none; simp only [List.length_append, List.length_singleton]; omega), fun q10 Hh s_h hh => ?_⟩⟩
    have s4 : Same Hd Hh := s3.trans (s_g.trans s_h)
    have hx4 := s4 _ _ (s2 _ _ hx)
    -- the third
    refine ⟨_, rfl, _, rfl, p, xs, rfl, rfl, hx4, fun q11 hq11 => ?_⟩
    have sI : Same Hh (upd Hh q11 (.tup xs.reverse)) := Same.new hq11
    have fI : (upd Hh q11 (.tup xs.reverse)) q11 = some (.tup xs.reverse) := upd_same
    generalize upd Hh q11 (.tup xs.reverse) = Hi at sI fI ⊢
    -- the fourth
    refine ⟨_, rfl, _, rfl, _, rfl, p, _, rfl, sI _ _ hx4, fun q12 Hj s_j hj => ⟨p, q12, _, _, rfl, rfl, s_j _ _ (sI _ _ hx4), hj, (by have := lc none (some 1); omega), fun q13 Hk s_k hk => ?_⟩⟩
    have s5 : Same Hh Hk := sI.trans (s_j.trans s_k)
    refine ⟨(by show 4 ≤ sizeLine; omega), fun l3 hl3 => ?_⟩
    have sL : Same Hk (upd Hk l3 (.lst [.ref q5, .ref q10, .ref q11, .ref q13])) := Same.new hl3
    have fL : (upd Hk l3 (.lst [.ref q5, .ref q10, .ref q11, .ref q13])) l3 = some (.lst [.ref q5, .ref q10, .ref q11, .ref q13]) := upd_same
    generalize upd Hk l3 (.lst [.ref q5, .ref q10, .ref q11, .ref q13]) = Hl at sL fL ⊢
    have a5 := sL _ _ (s5 _ _ (s4 _ _ hd))
    have a10 := sL _ _ (s5 _ _ hh)
    have a11 := sL _ _ (s_k _ _ (s_j _ _ fI))
    have a13 := sL _ _ hk
    have s6 : Same H2 Hl := s2.trans (s4.trans (s5.trans sL))
    clear hd hh hk sL s5 s4 s3 s2 s1 fI
    refine ⟨_, rfl, _, rfl, p, _, rfl, .inr (SqT.of (s6 _ _ hx)), fun q14 hq14 => ?_⟩
    have sM : Same Hl (upd Hl q14 (.lst xs)) := Same.new hq14
    have fM : (upd Hl q14 (.lst xs)) q14 = some (.lst xs) := upd_same
    generalize upd Hl q14 (.lst xs) = Hm at sM fM ⊢
    refine ⟨_, rfl, _, rfl, (by show 1 ≤ sizeLine; omega), fun q15 hq15 => ?_⟩
    have sN : Same Hm (upd Hm q15 (.tup [.ref p])) := Same.new hq15
    have fN : (upd Hm q15 (.tup [.ref p])) q15 = some (.tup [.ref p]) := upd_same
    generalize upd Hm q15 (.tup [.ref p]) = Hn at sN fN ⊢
    refine ⟨(by show 3 ≤ sizeLine; omega), fun l4 hl4 => ?_⟩
    have sP : Same Hn (upd Hn l4 (.lst [.ref q14, y, .ref q15])) := Same.new hl4
    have fP : (upd Hn l4 (.lst [.ref q14, y, .ref q15])) l4 = some (.lst [.ref q14, y, .ref q15]) := upd_same
    generalize upd Hn l4 (.lst [.ref q14, y, .ref q15]) = Hp' at sP fP ⊢
    have sMP : Same Hl Hp' := sM.trans (sN.trans sP)
    refine ⟨l3, l4, _, _, rfl, rfl, sMP _ _ fL, fP, (by show 4 + 3 ≤ sizeLine; omega), fun l5 hl5 => ?_⟩
    have sQ : Same Hp' (upd Hp' l5 (.lst ([.ref q5, .ref q10, .ref q11, .ref q13] ++ [.ref q14, y, .ref q15]))) := Same.new hl5
    have fQ : (upd Hp' l5 (.lst ([.ref q5, .ref q10, .ref q11, .ref q13] ++ [.ref q14, y, .ref q15]))) l5 = some (.lst [.ref q5, .ref q10, .ref q11, .ref q13, .ref q14, y, .ref q15]) := upd_same
    generalize upd Hp' l5 (.lst ([.ref q5, .ref q10, .ref q11, .ref q13] ++ [.ref q14, y, .ref q15])) = Hq at sQ fQ ⊢
    have sLQ : Same Hl Hq := sMP.trans sQ
    have s7 : Same H2 Hq := s6.trans sLQ
    have FQ := F3.same s7
    have PQ := PW.same s7
    have oQ : OddC Hq y := od.mono (fun _ _ e => s7 _ _ e) fun _ _ e => s7 _ _ e
    obtain ⟨dy, hdy, Sy, dy', By⟩ := oQ
    have py : Prts Hq [y] := Prts.cons hdy Sy Prts.nil
    obtain ⟨dc, hdc, Sc⟩ := caps_sm (s7 _ _ hx) hl6 (fun x hx => let ⟨d, a, b⟩ := pt x hx; ⟨d, a.same s7, b⟩)
    have pc : Prts Hq [.ref p] := Prts.cons hdc Sc Prts.nil
    have all : ∀ x ∈ ([.ref q5, .ref q10, .ref q11, .ref q13, .ref q14, y, .ref q15] : List V), ∃ dd, Bn Hq x dd := by
      refine thf_cons (bn_tup (sLQ _ _ a5) ((PQ.cut.app py).app PQ.cut) ?_) (thf_cons (bn_tup (sLQ _ _ a10) ((PQ.cut.app py).app PQ.cut) ?_) (thf_cons (bn_tup (sLQ _ _ a11) (fun x hx => PQ x (List.mem_reverse.mp hx)) ?_) (thf_cons (bn_tup (sLQ _ _ a13) (PQ.app PQ.cut) ?_) (thf_cons (bn_lst (sQ _ _ (sP _ _ (sN _ _ fM))) PQ ?_) (thf_cons ⟨dy', By⟩ (thf_cons (bn_tup (sQ _ _ (sP _ _ fN)) pc (by simp)) thf_nil))))))
      · have h1 := lc none (some (at' : Int)); have h2 := lc (some (at' : Int)) none; simp only [List.length_append, List.length_singleton]; omega
      · have h1 := lc none (some (at' : Int)); have h2 := lc (some ((at' : Int) + 1)) none; simp only [List.length_append, List.length_singleton]; omega
      · rw [List.length_reverse]; omega
      · have h1 := lc none (some 1); simp only [List.length_append]; omega
      · omega
    refine ⟨_, rfl, d, _, rfl, FQ, by decide, by decide, fun r' H3 r0' r1' F4 sb3 => ?_⟩
    obtain ⟨x, hx', hxm⟩ := at_mem (xs := [.ref q5, .ref q10, .ref q11, .ref q13, .ref q14, y, .ref q15]) r0' r1'
    obtain ⟨dd, B⟩ := all x hxm
    refine ⟨l5, _, _, x, rfl, rfl, SqL.of (sb3 _ _ (FQ.nl fQ) fQ), hx', ?_⟩
    exact k x dd H3 (BnC.mono (fun _ _ e => sb3 _ _ (FQ.nl e) e) (fun _ _ e => sb3 _ _ (FQ.neT e) e) B) F4 ((SB2.trans s7.b).trans sb3)
end
end Kx
set_option Elab.async false
set_option linter.all false
set_option maxRecDepth 100000
set_option maxHeartbeats 0
namespace Kx
open PySem PySem.Spec PyProof.Rows L2 Wd
def spLaw (K : PySem.W.Frag) : Sp := fun vs H Q _ => ∃ (a : Addr) (ns : List Int), vs = [.ref a] ∧ SqL K H a (ns.map V.int) ∧ ns.length ≤ 63 ∧ ∀ H', Q (.bl true) H'
section
variable {P : Program} {w : World} {K : PySem.W.Frag} {mg : Str → Option Value} {base : Heap} {aB : Addr}
theorem flat_len {u : List L} (U : Srf u) : (hol u).flatten.length = u.length := (hol_dc U).pm.length_eq
theorem hol_le {u : List L} (U : Srf u) {w : List L} (hw : w ∈ hol u) : w ≠ [] ∧ w.length ≤ 12 := by
  refine ⟨((hol_dc U).cy w hw).ne, ?_⟩
  have h1 := List.Sublist.length_le (List.sublist_flatten_of_mem hw)
  have h2 := flat_len U
  have := U.le
  omega
theorem rd_adj : ∀ l : List L, (∀ x y, Adj l x y → y ≠ inv x) → Rd l
  | [], _ => trivial
  | [_], _ => trivial
  | x :: y :: r, h => ⟨h x y (.inl ⟨rfl, rfl⟩), rd_adj (y :: r) fun a b q => h a b (.inr q)⟩
theorem hol_rnd {u : List L} (U : Srf u) {w : List L} (hw : w ∈ hol u) : Rnd w := by
  have hne := (hol_le U hw).1
  cases e : w with
  | nil => exact absurd e hne
  | cons h t =>
    have q : Rd ((h :: t) ++ [h]) := rd_adj _ fun x y a => hol_round U hw (by rw [e]; exact a)
    obtain ⟨r1, _, j⟩ := (rd_append _ _).mp q
    refine ⟨by simp, r1, fun x y hx hy => j x y hx ?_⟩
    exact hy
theorem ring_rep {u : List L} (U : Srf u) {w : List L} (hw : w ∈ hol u) {j : Nat} (h1 : 1 ≤ j) (h10 : j ≤ 10) : ringB (rep j w) = true := by
  obtain ⟨k, rfl⟩ : ∃ k, j = k + 1 := ⟨j - 1, by omega⟩
  have R := rep_rnd (hol_rnd U hw) k
  have hl : (rep (k + 1) w).length = (k + 1) * w.length := rep_length w (k + 1)
  have hw12 := (hol_le U hw).2
  have : (k + 1) * w.length ≤ 10 * 12 := Nat.mul_le_mul (by omega) hw12
  generalize rep (k + 1) w = v at R hl ⊢
  have hp := List.length_pos_iff.mpr R.ne
  have er : rndB v = true := by
    unfold rndB
    rw [decide_eq_true (red_of_rd R.rd), decide_eq_false R.ne, Bool.true_and, Bool.false_or, Bool.not_eq_true', decide_eq_false_iff_not]
    intro q
    cases e : v with
    | nil => exact R.ne e
    | cons h t =>
      rw [e] at q R
      have q : (h :: t).getLast? = some (inv h) := q
      exact R.jn _ h q rfl (inv_inv h).symm
  unfold ringB
  rw [decide_eq_true (by omega : 1 ≤ v.length), decide_eq_true (by omega : v.length ≤ 120), er]
  rfl
theorem hol_13 {u : List L} (U : Srf u) : (hol u).length ≤ 12 := by
  have : (hol u).length ≤ u.length := hol_len u u.length
  have := U.le
  omega
theorem getD_hol {u : List L} {i : Nat} (h : i < (hol u).length) : (hol u).getD i [] ∈ hol u := by
  rw [List.getD_eq_getElem?_getD, List.getElem?_eq_getElem h]
  exact List.getElem_mem h
theorem Cq.cs {K : PySem.W.Frag} {H : Hp} {a : Addr} {n : Nat} {ps : List (Nat × Nat)} (h : Cq H a n ps) : Cs K H (.ref a) (some (ps.map fun p => some ((p.1 : Int), (p.2 : Int)))) := by
  obtain ⟨⟨xs, h1, h2, h3⟩, h4, h5⟩ := h
  refine .tup h1 (fun i x e => ?_) (by omega) (by rw [List.length_map, h2])
  obtain ⟨b, p, rfl, e2, e3⟩ := h3 i x e
  exact ⟨_, by rw [List.getElem?_map, e2]; rfl, .cap e3⟩
theorem ris_pw : ∀ ps : List (Nat × Nat), (ps.map (·.1)).Pairwise (· < ·) → ris (ps.map fun p => some ((p.1 : Int), (p.2 : Int))) = true
  | [], _ => rfl
  | [p], _ => rfl
  | p :: q :: r, h => by
    have ih := ris_pw (q :: r) (List.Pairwise.of_cons h)
    have e : ris ((p :: q :: r).map fun p => some ((p.1 : Int), (p.2 : Int))) = (decide ((p.1 : Int) < (q.1 : Int)) && ris ((q :: r).map fun p => some ((p.1 : Int), (p.2 : Int)))) := rfl
    have hlt : p.1 < q.1 := (List.pairwise_cons.mp h).1 q.1 (by simp)
    rw [e, ih, decide_eq_true (by omega)]
    rfl
theorem Cq.ok' {H : Hp} {a : Addr} {n : Nat} {ps : List (Nat × Nat)} (h : Cq H a n ps) (pw : (ps.map (·.1)).Pairwise (· < ·)) : capsB n (some (ps.map fun p => some ((p.1 : Int), (p.2 : Int)))) = true := by
  show (decide ((ps.map fun p => some ((p.1 : Int), (p.2 : Int))).length ≤ 6) && (ps.map fun p => some ((p.1 : Int), (p.2 : Int))).all (okCap n) && ris (ps.map fun p => some ((p.1 : Int), (p.2 : Int)))) = true
  rw [ris_pw ps pw, decide_eq_true (by rw [List.length_map]; exact h.le), Bool.true_and, Bool.and_true, List.all_eq_true]
  intro c hc
  obtain ⟨p, hp, rfl⟩ := List.mem_map.mp hc
  obtain ⟨o1, o2, o3⟩ := h.ok p hp
  show (decide ((0 : Int) ≤ (p.1 : Int)) && decide ((p.1 : Int) < (n : Int)) && (decide ((1 : Int) ≤ (p.2 : Int)) && decide ((p.2 : Int) ≤ 10))) = true
  rw [decide_eq_true (by omega), decide_eq_true (by omega), decide_eq_true (by omega), decide_eq_true (by omega)]
  rfl
theorem capW_mem {u : List L} {n : Nat} {ps : List (Nat × Nat)} {H : Hp} {a : Addr} (U : Srf u) (h : Cq H a (hol u).length ps) : ∀ w ∈ capW u ps, ringB w = true ∧ w.length ≤ 120 := fun w hw => by
  obtain ⟨p, hp, rfl⟩ := List.mem_map.mp hw
  obtain ⟨o1, o2, o3⟩ := h.ok p hp
  refine ⟨ring_rep U (getD_hol o1) o2 o3, ?_⟩
  have hw12 := (hol_le U (getD_hol o1)).2
  have : p.2 * ((hol u).getD p.1 []).length ≤ 10 * 12 := Nat.mul_le_mul o3 hw12
  show (rep p.2 ((hol u).getD p.1 [])).length ≤ 120
  rw [rep_length]
  omega
theorem ite2N {c : Prop} [Decidable c] {A : Prop} {D : Ends} {σ : L2.St} {H0 : Hp} (ok : L2.St → Hp → Prop) (oB : ok σ H0) (main : ∀ σ H, ok σ H → D.nx σ H) (hA : (∀ σ H, ok σ H → D.nx σ H) → A) : if c then A else tNext D σ H0 := by
  by_cases h : c
  · rw [if_pos h]; exact hA main
  · rw [if_neg h]; exact main σ H0 oB
def row12 : List L := [0, 6, 1, 7, 2, 8, 3, 9, 4, 10, 5, 11]
theorem row12_toS : ("aAbBcCdDeEfF" : Str) = toS row12 := by decide +kernel
theorem srf_row : ∀ m : Fin 6, (row12.take (2 + 2 * m.val)) ≠ [] ∧ (row12.take (2 + 2 * m.val)).Nodup ∧ (∀ x ∈ row12.take (2 + 2 * m.val), inv x ∈ row12.take (2 + 2 * m.val)) ∧ (row12.take (2 + 2 * m.val)).length ≤ 12 := by decide +kernel
theorem row_cut {m : Nat} (hm : m < 6) : ∃ u, V.str (Txt.slice ("aAbBcCdDeEfF" : Str) none (some (2 + 2 * (m : Int)))) = tx u ∧ Srf u := by
  obtain ⟨a, b, c, d⟩ := srf_row ⟨m, hm⟩
  refine ⟨row12.take (2 + 2 * m), ?_, ⟨a, b, c, d⟩⟩
  rw [row12_toS, slice_toS, cut_to _ (by omega), show (2 + 2 * (m : Int)).toNat = 2 + 2 * m by omega]
  rfl
/-- a thing of the menu: shown, and it may be caps -/
def Mn (H : Hp) (x : V) : Prop := (∃ d, Bn H x d) ∨ ∃ a, x = .ref a ∧ H a = some (.dK [])
theorem Mn.shw {H : Hp} {x : V} (h : Mn H x) : ∃ z, Shw H x z := by
  rcases h with ⟨d, h⟩ | ⟨a, rfl, h⟩
  · exact ⟨_, .dat h.dt h.sh.1 h.sh.2⟩
  · exact ⟨_, .void h⟩
theorem Mn.cs {K : PySem.W.Frag} {H : Hp} {x : V} (h : Mn H x) : ∃ c, Cs K H x c := by
  rcases h with ⟨d, h⟩ | ⟨a, rfl, h⟩
  · exact Bn.cs h
  · exact ⟨_, .oth (.dK h) kitT_dict⟩
theorem Mn.same {H H' : Hp} {x : V} (s : Same H H') (h : Mn H x) : Mn H' x := by
  rcases h with ⟨d, h⟩ | ⟨a, rfl, h⟩
  · exact .inl ⟨d, BnC.mono (fun _ _ e => s _ _ e) (fun _ _ e => s _ _ e) h⟩
  · exact .inr ⟨a, rfl, s _ _ h⟩
theorem Mn.sb {H H' : Hp} {x : V} {d : Addr} (F : Fd H d) (s : SameB d H H') (h : Mn H x) : Mn H' x := by
  rcases h with ⟨dd, h⟩ | ⟨a, rfl, h⟩
  · exact .inl ⟨dd, BnC.mono (fun _ _ e => s _ _ (F.nl e) e) (fun _ _ e => s _ _ (F.neT e) e) h⟩
  · refine .inr ⟨a, rfl, s _ _ (fun e => ?_) h⟩
    obtain ⟨c, i, l, t, ns, hd, _⟩ := F.ex
    rw [e, hd] at h
    cases h
theorem mn_one {H : Hp} {x : V} {d : PyData} (h : Dt H x d) (S : Lf d) (nr : ∀ a, x ≠ .ref a) : Mn H x := .inl ⟨d, .one h S.sm nr⟩
theorem mn_tup {H : Hp} {a : Addr} {xs : List V} (h : H a = some (.tup xs)) (p : Prts H xs) (hl : xs.length ≤ 20) : Mn H (.ref a) := .inl (bn_tup h p hl)
theorem mn_lst {H : Hp} {a : Addr} {xs : List V} (h : H a = some (.lst xs)) (p : Prts H xs) (hl : xs.length ≤ 20) : Mn H (.ref a) := .inl (bn_lst h p hl)
theorem mn_void {H : Hp} {a : Addr} (h : H a = some (.dK [])) : Mn H (.ref a) := .inr ⟨a, rfl, h⟩
theorem same_over {H H' : Hp} {p : Addr} {o : HO} (hp : H p = none) (s : Same H H') : Same H (upd H' p o) := fun b ob e => by rw [upd_ne (ne_of_none e hp)]; exact s _ _ e
theorem sh_words {ws : List (List L)} (h : ∀ w ∈ ws, w.length ≤ 120) (hl : ws.length ≤ 6) : Sh (.tuple (dws ws)) := by
  refine sh_tupD (fun d hd => ?_) (by unfold dws; rw [List.length_map]; omega)
  obtain ⟨w, hw, rfl⟩ := List.mem_map.mp hd
  exact sm_word (Nat.le_trans (h w hw) (by decide))
/-- pairs of holes -/
def Prs (H : Hp) (k : Int) (ys : List V) : Prop := ∀ (i : Nat) (y : V), ys[i]? = some y → ∃ b, y = .ref b ∧ H b = some (.tup [.int (i : Int), .int k])
theorem Prs.same {H H' : Hp} {k : Int} {ys : List V} (s : Same H H') (h : Prs H k ys) : Prs H' k ys := fun i y e => let ⟨b, h1, h2⟩ := h i y e; ⟨b, h1, s _ _ h2⟩
theorem Prs.snoc {H : Hp} {k : Int} {ys : List V} {b : Addr} {n : Nat} (h : Prs H k ys) (hn : ys.length = n) (hb : H b = some (.tup [.int (n : Int), .int k])) : Prs H k (ys ++ [.ref b]) := fun i y e => by
  by_cases hi : i < ys.length
  · rw [List.getElem?_append_left hi] at e
    exact h i y e
  · have : i = ys.length := by
      obtain ⟨q, _⟩ := List.getElem?_eq_some_iff.mp e
      rw [List.length_append, List.length_singleton] at q
      omega
    subst this
    rw [List.getElem?_append_right (Nat.le_refl _), Nat.sub_self] at e
    obtain rfl := Option.some.inj e
    exact ⟨b, rfl, by rw [hn]; exact hb⟩
theorem Prs.prts {H : Hp} {k : Int} {ys : List V} (h : Prs H k ys) (hk : 1 ≤ k ∧ k ≤ 10) (hl : ys.length ≤ 13) : Prts H ys := fun y hy => by
  obtain ⟨i, e⟩ := List.getElem?_of_mem hy
  obtain ⟨b, rfl, hb⟩ := h i y e
  have hi : i < ys.length := (List.getElem?_eq_some_iff.mp e).1
  refine ⟨_, .tup hb (.cons (.int _) (.cons (.int _) .nil)), (sm_of (w := 4) (ds := [.int (i : Int), .int k]) (fun d hd => ?_) (by show 2 * 5 ≤ 400; decide)).1⟩
  rcases List.mem_cons.mp hd with rfl | hd
  · exact lf_int (by omega) (by omega)
  · rw [List.mem_singleton] at hd
    subst hd
    exact lf_int (by omega) (by omega)
theorem Prs.but {H : Hp} {k : Int} {ys xs : List V} {p : Addr} {o : HO} (hp : H p = some (.lst xs)) (h : Prs H k ys) : Prs (upd H p o) k ys := fun i y e => by
  obtain ⟨b, h1, h2⟩ := h i y e
  exact ⟨b, h1, by rw [upd_ne (ne_of h2 hp (by intro z; cases z))]; exact h2⟩
abbrev s_law : Stmt := top 36
theorem sc_law : FnScope ["_law_script", "_law_feed_here", "_law_k", "_law_row", "_law_words", "_law_caps_here", "_law_due", "_law_things", "_law_thing", "_law_kept"] ["_law_script"] (defScope s_law) := ⟨rfl, rfl, rfl, by decide +kernel, rfl, by decide +kernel, by decide +kernel⟩
theorem c_law {f : Addr} {fd : FuncData} (D : Fun K "law" "law" s_law f fd) (T : Bt K w mg aB) (F_feed : Fnc P w K mg base "_law_feed" ["_law_script"] 1 (spFeed K)) (F_draw : Fnc P w K mg base "_law_draw" ["_law_feed_here", "_law_many"] 1 spDraw) (F_surf : Fnc P w K mg base "_law_surface" ["_law_feed_here", "_law_many"] 2 spSurfD) (F_lholes : Fnc P w K mg base "_law_holes" ["_law_row"] 2 spHoles)
    (F_lcaps : Fnc P w K mg base "_law_caps" ["_law_feed_here", "_law_many"] 2 spLCaps) (F_caps : Fnc P w K mg base "is_caps" ["surface", "thing"] 4 (spIsCaps K)) (F_capped : Fnc P w K mg base "capped" ["surface", "caps"] 4 spCapped) (F_rings : Fnc P w K mg base "is_rings" ["thing"] 4 (spRings K)) (F_liscaps : Fnc P w K mg base "_law_is_caps" ["_law_many", "_law_thing"] 2 (spLIsCaps K)) (F_bent : Fnc P w K mg base "_law_bent" ["_law_feed_here", "_law_many", "_law_caps_here"] 2 spBentC) : FnOk P w K mg base CX0 6 f fd ["_law_script"] (spLaw K) := by
  have sc := sc_law
  refine D.ok sc (fun vs H Q E h => ?_) (fun cdv A outer s H vs Q E hr h => ?_)
  · obtain ⟨a, ns, rfl, _⟩ := h
    rfl
  · obtain ⟨a, ns, rfl, hS, hlen, k⟩ := h
    have l16 := line16
    refine ⟨_, (@pss_cons _ _ _ _ _ (@ps_set _ _ (1) _ _ _ _ sc.nd rfl (Or.inr rfl) (@pe_fn _ _ _ _ _ _ _ _ _ _ _ F_feed hr (by decide) rfl (@pa_cons _ _ _ _ _ (pv 0) pa_nil (by rfl)) (by decide) (by rfl) (by rfl)) (by rfl) (by first | exact .inl rfl | exact .inr rfl | assumption)) (@pss_cons _ _ _ _ _ (@ps_for _ _ _ _ _ _ _ _ PassesOwn.never rfl (@pi_range1 _ _ _ _ _ _ rfl T.range (@pa_cons _ _ _ _ _ pe_int pa_nil (by rfl)) (by rfl)) (@pg_name _ _ (2) _ sc.nd rfl (Or.inl rfl) (by first | exact .inl rfl | exact .inr rfl | assumption)) (@pss_cons _ _ _ _ _ (@ps_set _ _ (3) _ _ _ _ sc.nd rfl (Or.inl rfl) (@pe_fn _ _ _ _ _ _ _ _ _ _ _ F_surf hr (by decide) rfl (@pa_cons _ _ _ _ _ (pv 1) (@pa_cons _ _ _ _ _ (@pe_op _ _ _ _ _ _ _ _ op_add pe_int (@pe_fn _ _ _ _ _ _ _ _ _ _ _ F_draw hr (by decide) rfl (@pa_cons _ _ _ _ _ (pv 1) (@pa_cons _ _ _ _ _ pe_int pa_nil (by rfl)) (by rfl)) (by decide) (by rfl) (by rfl))) pa_nil (by rfl)) (by rfl)) (by decide) (by rfl) (by rfl)) (by rfl) (by first | exact .inl rfl | exact .inr rfl | assumption)) (@pss_cons _ _ _ _ _ (@ps_if _ _ _ _ _ _ _ _ (@pt_cmpR _ _ _ _ _ _ _ _ op_eq (@pe_fn _ _ _ _ _ _ _ _ _ _ _ F_draw hr (by decide) rfl (@pa_cons _ _ _ _ _ (pv 1) (@pa_cons _ _ _ _ _ pe_int pa_nil (by rfl)) (by rfl)) (by decide) (by rfl) (by rfl)) pe_int (nomark _)) (@pss_one _ _ _ (@ps_set _ _ (3) _ _ _ _ sc.nd rfl (Or.inl rfl) (@pe_slice _ _ _ _ _ _ _ _ _ _ sl_str pe_str po_none (@po_some _ _ _ (@pe_op _ _ _ _ _ _ _ _ op_add pe_int (@pe_op _ _ _ _ _ _ _ _ op_mul pe_int (@pe_fn _ _ _ _ _ _ _ _ _ _ _ F_draw hr (by decide) rfl (@pa_cons _ _ _ _ _ (pv 1) (@pa_cons _ _ _ _ _ pe_int pa_nil (by rfl)) (by rfl)) (by decide) (by rfl) (by rfl)))))) (by rfl) (by first | exact .inl rfl | exact .inr rfl | assumption))) pss_nil) (@pss_cons _ _ _ _ _ (@ps_set _ _ (4) _ _ _ _ sc.nd rfl (Or.inr rfl) (@pe_fn _ _ _ _ _ _ _ _ _ _ _ F_lholes hr (by decide) rfl (@pa_cons _ _ _ _ _ (pv 3) pa_nil (by rfl)) (by decide) (by rfl) (by rfl)) (by rfl) (by first | exact .inl rfl | exact .inr rfl | assumption)) (@pss_cons _ _ _ _ _ (@ps_set _ _ (5) _ _ _ _ sc.nd rfl (Or.inr rfl) (@pe_fn _ _ _ _ _ _ _ _ _ _ _ F_lcaps hr (by decide) rfl (@pa_cons _ _ _ _ _ (pv 1) (@pa_cons _ _ _ _ _ (@pe_callB _ _ _ _ _ _ _ _ _ call_len_seq (by rfl) T.len PySem.boot_len (@pa_cons _ _ _ _ _ (pv 4) pa_nil (by rfl)) (by decide) (by decide) (by rfl) (by rfl)) pa_nil (by rfl)) (by rfl)) (by decide) (by rfl) (by rfl)) (by rfl) (by first | exact .inl rfl | exact .inr rfl | assumption)) (@pss_cons _ _ _ _ _ (@ps_set _ _ (6) _ _ _ _ sc.nd rfl (Or.inl rfl) (@pe_callTy _ _ _ _ _ _ _ _ _ call_tuple_of (by rfl) T.tuple b_tuple (@pa_cons _ _ _ _ _ (@pe_comp _ _ _ _ _ _ _ (["_law_hole", "_law_often", "_law_words"]) (["_law_hole", "_law_often"]) ([4]) _ _ _ _ (@blk_of _ _ _ _ _ _ rfl (by kernel_rfl)) rfl (@pi_tup _ _ _ _ (pv 5)) (fun _ _ _ _ => @pg_tupK _ (K) _ _ _ (2) _ rfl rfl (@pgs_cons _ _ _ _ _ (@pg_name _ _ (0) _ (show (["_law_hole", "_law_often", "_law_words"] : List Str).Nodup from by decide +kernel) rfl (Or.inl rfl) (by first | exact .inl rfl | exact .inr rfl | assumption)) (@pgs_cons _ _ _ _ _ (@pg_name _ _ (1) _ (show (["_law_hole", "_law_often", "_law_words"] : List Str).Nodup from by decide +kernel) rfl (Or.inl rfl) (by first | exact .inl rfl | exact .inr rfl | assumption)) pgs_nil (by rfl)) (by rfl)) (by rfl) (by rfl)) (fun _ _ _ _ => pifs_nil) (fun _ _ _ _ => by (exact @pe_op _ _ _ _ _ _ _ _ op_mul_str (by (exact (@pe_ix _ _ _ _ _ _ _ (@ix_listK _ (K) rfl) (pv 2) (pv 0) (fun _ _ => rfl)))) (by (exact (pv 1))))) (by intro _ ; rfl)) pa_nil (by rfl)) (by decide) (by decide) (by rfl) (by rfl)) (by rfl) (by first | exact .inl rfl | exact .inr rfl | assumption)) (@pss_cons _ _ _ _ _ (@ps_if _ _ _ _ _ _ _ _ (@PW.pt _ _ _ (@pw_or _ _ _ _ _ _ _ (@pt_cmpR _ _ _ _ _ _ _ _ op_notB (@pe_fn _ _ _ _ _ _ _ _ _ _ _ F_caps hr (by decide) rfl (@pa_cons _ _ _ _ _ (pv 3) (@pa_cons _ _ _ _ _ (pv 5) pa_nil (by rfl)) (by rfl)) (by decide) (by rfl) (by rfl)) pe_bl (nomark _)) (@pw_or _ _ _ _ _ _ _ (@pt_cmpR _ _ _ _ _ _ _ _ op_ne (@pe_callB _ _ _ _ _ _ _ _ _ (@call_repr_dat _ (by exact hr.gd) (by exact hr.units)) (by rfl) T.repr b_repr (@pa_cons _ _ _ _ _ (@pe_fn _ _ _ _ _ _ _ _ _ _ _ F_capped hr (by decide) rfl (@pa_cons _ _ _ _ _ (pv 3) (@pa_cons _ _ _ _ _ (pv 5) pa_nil (by rfl)) (by rfl)) (by decide) (by rfl) (by rfl)) pa_nil (by rfl)) (by decide) (by decide) (by rfl) (by rfl)) (@pe_callB _ _ _ _ _ _ _ _ _ (@call_repr_dat _ (by exact hr.gd) (by exact hr.units)) (by rfl) T.repr b_repr (@pa_cons _ _ _ _ _ (pv 6) pa_nil (by rfl)) (by decide) (by decide) (by rfl) (by rfl)) (nomark _)) (@pw_or1 _ _ _ _ (@pt_cmpR _ _ _ _ _ _ _ _ op_notB (@pe_fn _ _ _ _ _ _ _ _ _ _ _ F_rings hr (by decide) rfl (@pa_cons _ _ _ _ _ (pv 6) pa_nil (by rfl)) (by decide) (by rfl) (by rfl)) pe_bl (nomark _)))))) (@pss_one _ _ _ (@ps_ret _ _ _ _ pe_bl)) pss_nil) (@pss_cons _ _ _ _ _ (@ps_set _ _ (7) _ _ _ _ sc.nd rfl (Or.inl rfl) (@pe_lst _ _ _ _ (@pa_c _ _ _ _ _ pe_non (@pa_c _ _ _ _ _ pe_bl (@pa_c _ _ _ _ _ pe_int (@pa_c _ _ _ _ _ pe_str (@pa_c _ _ _ _ _ (@pe_lst _ _ _ _ pa_nil) (@pa_c _ _ _ _ _ pe_dnewK (@pa_c _ _ _ _ _ (@pe_tup _ _ _ _ _ pa_nil) (@pa_c _ _ _ _ _ (@pe_tup _ _ _ _ _ (@pa_cons _ _ _ _ _ (@pe_tup _ _ _ _ _ (@pa_cons _ _ _ _ _ pe_int (@pa_cons _ _ _ _ _ pe_int pa_nil (by rfl)) (by rfl))) pa_nil (by rfl))) (@pa_c _ _ _ _ _ (@pe_tup _ _ _ _ _ (@pa_cons _ _ _ _ _ pe_int (@pa_cons _ _ _ _ _ pe_int pa_nil (by rfl)) (by rfl))) (@pa_c _ _ _ _ _ pe_str (@pa_c _ _ _ _ _ (@pe_callTy _ _ _ _ _ _ _ _ _ call_tuple_of (by rfl) T.tuple b_tuple (@pa_cons _ _ _ _ _ (@pe_comp _ _ _ _ _ _ _ (["_law_hole"]) (["_law_hole"]) ([]) _ _ _ _ (@blk_of _ _ _ _ _ _ rfl (by kernel_rfl)) rfl (@pi_range1 _ _ _ _ _ _ rfl T.range (@pa_cons _ _ _ _ _ pe_int pa_nil (by rfl)) (by rfl)) (fun _ _ _ _ => @pg_name _ _ (0) _ (show (["_law_hole"] : List Str).Nodup from by decide +kernel) rfl (Or.inl rfl) (by first | exact .inl rfl | exact .inr rfl | assumption)) (fun _ _ _ _ => pifs_nil) (fun _ _ _ _ => by (exact (@pe_tup _ _ _ _ _ (@pa_cons _ _ _ _ _ (pv 0) (@pa_cons _ _ _ _ _ pe_int pa_nil (by rfl)) (by rfl))))) (by intro _ ; rfl)) pa_nil (by rfl)) (by decide) (by decide) (by rfl) (by rfl)) pa_nil (by rfl)) (by rfl)) (by rfl)) (by rfl)) (by rfl)) (by rfl)) (by rfl)) (by rfl)) (by rfl)) (by rfl)) (by rfl))) (by rfl) (by first | exact .inl rfl | exact .inr rfl | assumption)) (@pss_cons _ _ _ _ _ (@ps_expr _ _ _ _ (@pe_bm _ _ _ _ _ _ _ _ _ _ _ _ PySem.F.plainAttrs_list PySem.F.slot_list_append PySem.F.type_list_append mt_append (pv 7) (@pa_cons _ _ _ _ _ (@pe_callTy _ _ _ _ _ _ _ _ _ call_tuple_of (by rfl) T.tuple b_tuple (@pa_cons _ _ _ _ _ (@pe_comp _ _ _ _ _ _ _ (["_law_hole"]) (["_law_hole"]) ([]) _ _ _ _ (@blk_of _ _ _ _ _ _ rfl (by kernel_rfl)) rfl (@pi_range1 _ _ _ _ _ _ rfl T.range (@pa_cons _ _ _ _ _ (@pe_callB _ _ _ _ _ _ _ _ _ call_len_seq (by rfl) T.len PySem.boot_len (@pa_cons _ _ _ _ _ (pv 4) pa_nil (by rfl)) (by decide) (by decide) (by rfl) (by rfl)) pa_nil (by rfl)) (by rfl)) (fun _ _ _ _ => @pg_name _ _ (0) _ (show (["_law_hole"] : List Str).Nodup from by decide +kernel) rfl (Or.inl rfl) (by first | exact .inl rfl | exact .inr rfl | assumption)) (fun _ _ _ _ => pifs_nil) (fun _ _ _ _ => by (exact (@pe_tup _ _ _ _ _ (@pa_cons _ _ _ _ _ (pv 0) (@pa_cons _ _ _ _ _ pe_int pa_nil (by rfl)) (by rfl))))) (by intro _ ; rfl)) pa_nil (by rfl)) (by decide) (by decide) (by rfl) (by rfl)) pa_nil (by rfl)) (by rfl) (by rfl) (by rfl) (by rfl) (by rfl)) (by rfl)) (@pss_one _ _ _ (@ps_for _ _ _ _ _ _ _ _ PassesOwn.never rfl (@pi_list _ _ _ _ (@pe_op _ _ _ _ _ _ _ _ op_cat (pv 7) (@pe_comp _ _ _ _ _ _ _ (["_law_turn", "_law_feed_here", "_law_caps_here", "_law_words"]) (["_law_turn"]) ([1, 5, 4]) _ _ _ _ (@blk_of _ _ _ _ _ _ rfl (by kernel_rfl)) rfl (@pi_range1 _ _ _ _ _ _ rfl T.range (@pa_cons _ _ _ _ _ pe_int pa_nil (by rfl)) (by rfl)) (fun _ _ _ _ => @pg_name _ _ (0) _ (show (["_law_turn", "_law_feed_here", "_law_caps_here", "_law_words"] : List Str).Nodup from by decide +kernel) rfl (Or.inl rfl) (by first | exact .inl rfl | exact .inr rfl | assumption)) (fun _ _ _ _ => pifs_nil) (fun _ _ _ _ => by (exact (@pe_fn _ _ _ _ _ _ _ _ _ _ _ F_bent hr (by decide) rfl (@pa_cons _ _ _ _ _ (pv 1) (@pa_cons _ _ _ _ _ (@pe_callB _ _ _ _ _ _ _ _ _ (@call_len_seqK _ (K) rfl) (by rfl) T.len PySem.boot_len (@pa_cons _ _ _ _ _ (pv 3) pa_nil (by rfl)) (by decide) (by decide) (by rfl) (by rfl)) (@pa_cons _ _ _ _ _ (pv 2) pa_nil (by rfl)) (by rfl)) (by rfl)) (by decide) (by rfl) (by rfl)))) (by intro _ ; rfl)))) (@pg_name _ _ (8) _ sc.nd rfl (Or.inl rfl) (by first | exact .inl rfl | exact .inr rfl | assumption)) (@pss_cons _ _ _ _ _ (@ps_set _ _ (9) _ _ _ _ sc.nd rfl (Or.inl rfl) (@pe_callB _ _ _ _ _ _ _ _ _ (@call_repr_W _ (by exact hr.gd) (by exact hr.units)) (by rfl) T.repr b_repr (@pa_cons _ _ _ _ _ (pv 8) pa_nil (by rfl)) (by decide) (by decide) (by rfl) (by rfl)) (by rfl) (by first | exact .inl rfl | exact .inr rfl | assumption)) (@pss_one _ _ _ (@ps_if _ _ _ _ _ _ _ _ (@PW.pt _ _ _ (@pw_or _ _ _ _ _ _ _ (@pt_cmpR _ _ _ _ _ _ _ _ op_ne (@pe_callB _ _ _ _ _ _ _ _ _ call_repr_bool (by rfl) T.repr b_repr (@pa_cons _ _ _ _ _ (@pe_fn _ _ _ _ _ _ _ _ _ _ _ F_caps hr (by decide) rfl (@pa_cons _ _ _ _ _ (pv 3) (@pa_cons _ _ _ _ _ (pv 8) pa_nil (by rfl)) (by rfl)) (by decide) (by rfl) (by rfl)) pa_nil (by rfl)) (by decide) (by decide) (by rfl) (by rfl)) (@pe_callB _ _ _ _ _ _ _ _ _ call_repr_bool (by rfl) T.repr b_repr (@pa_cons _ _ _ _ _ (@pe_fn _ _ _ _ _ _ _ _ _ _ _ F_liscaps hr (by decide) rfl (@pa_cons _ _ _ _ _ (@pe_callB _ _ _ _ _ _ _ _ _ call_len_seq (by rfl) T.len PySem.boot_len (@pa_cons _ _ _ _ _ (pv 4) pa_nil (by rfl)) (by decide) (by decide) (by rfl) (by rfl)) (@pa_cons _ _ _ _ _ (pv 8) pa_nil (by rfl)) (by rfl)) (by decide) (by rfl) (by rfl)) pa_nil (by rfl)) (by decide) (by decide) (by rfl) (by rfl)) (nomark _)) (@pw_or1 _ _ _ _ (@pt_cmpR _ _ _ _ _ _ _ _ op_ne (@pe_callB _ _ _ _ _ _ _ _ _ (@call_repr_W _ (by exact hr.gd) (by exact hr.units)) (by rfl) T.repr b_repr (@pa_cons _ _ _ _ _ (pv 8) pa_nil (by rfl)) (by decide) (by decide) (by rfl) (by rfl)) (pv 9) (nomark _))))) (@pss_one _ _ _ (@ps_ret _ _ _ _ pe_bl)) pss_nil))) (by intro _ ; rfl))))))))))) (by intro _ ; rfl)) (@pss_one _ _ _ (@ps_ret _ _ _ _ pe_bl)))), ?_⟩
    refine ⟨_, rfl, a, ns, rfl, hS, hlen, fun d G0 _ F0 _ => ?_⟩
    refine ⟨_, rfl, by decide, by decide, for_range (lo := 0) (n := 5) (fun i σ H' => ∃ (b1 b2 b3 b4 b5 b6 b7 b8 : Option V), σ = [some (.ref a), some (.ref d), b1, b2, b3, b4, b5, b6, b7, b8] ∧ Fd H' d) ⟨none, none, none, none, none, none, none, none, rfl, F0⟩ ?_ ?_⟩
    rotate_left
    · rintro σ H1 ⟨b1, b2, b3, b4, b5, b6, b7, b8, rfl, F1⟩
      exact k H1
    rintro i σ H1 hi ⟨b1, b2, b3, b4, b5, b6, b7, b8, rfl, F1⟩
    refine ⟨_, rfl, _, rfl, d, _, rfl, F1, by decide, by decide, fun r H2 r0 r1 F2 _ => ⟨_, _, rfl, rfl, ?_⟩⟩
    obtain ⟨m, rfl⟩ := Int.eq_ofNat_of_zero_le r0
    refine ⟨d, m + 1, (by show [V.ref d, V.int (1 + (m : Int))] = _; rw [show 1 + (m : Int) = ((m + 1 : Nat) : Int) by omega]), F2, by omega, by omega, fun u H3 RN hall F3 _ => ?_⟩
    have U0 : Srf u := ⟨fun e => by have := RN.len; rw [e] at this; simp at this, RN.nd, fun x hx => hall _ (by rw [inv_mod]; exact RN.ins x hx), by have := RN.len; omega⟩
    refine ⟨_, rfl, d, _, rfl, F3, by decide, by decide, fun r2 H4 _ _ F4 _ => ⟨rfl, _, rfl, ?_⟩⟩
    refine ite2N (fun σ H' => ∃ u : List L, σ = [some (.ref a), some (.ref d), some (.int (0 + (i : Int))), some (tx u), b3, b4, b5, b6, b7, b8] ∧ Srf u ∧ Fd H' d) ⟨u, rfl, U0, F4⟩ ?_ (fun main => ?_)
    rotate_left
    · refine ⟨_, rfl, d, _, rfl, F4, by decide, by decide, fun r3 H5 r30 r31 F5 _ => ?_⟩
      obtain ⟨m3, rfl⟩ := Int.eq_ofNat_of_zero_le r30
      refine ⟨_, _, rfl, rfl, .inl ⟨by decide, by decide⟩, _, _, rfl, rfl, _, rfl, _, rfl, (by rw [row12_toS, toS_length]; show 12 ≤ sizeLine; omega), ?_⟩
      obtain ⟨u', e, U'⟩ := row_cut (m := m3) (by omega)
      refine main _ _ ⟨u', ?_, U', F5⟩
      show [some (V.ref a), some (V.ref d), some (V.int (0 + (i : Int))), some (V.str (Txt.slice ("aAbBcCdDeEfF" : Str) none (some (2 + 2 * (m3 : Int))))), b3, b4, b5, b6, b7, b8] = _
      rw [e]
    clear U0 F4 F3 F2 RN hall
    rintro σ H4 ⟨u, rfl, U, F4⟩
    have h12 := hol_13 U
    refine ⟨_, rfl, u, rfl, U, fun l H5 hl0 hl s5 => ?_⟩
    have F5 := F4.same s5
    refine ⟨_, rfl, _, rfl, l, _, rfl, .inl (SqL.of hl), d, (hol u).length, (by rw [List.length_map]; rfl), F5, by omega, fun c H6 ps hc0 hq pw F6 sb6 => ?_⟩
    have hl := sb6 _ _ (F5.nl hl) hl
    have h6 := hq.le
    obtain ⟨xs, hx, hxl, hxs⟩ := hq.ex
    -- what is due
    refine ⟨_, rfl, c, rfl, ⟨xs, SqT.of hx⟩, ?_⟩
    refine comp_tup (xs := xs) (own := ["_law_hole", "_law_often"]) (cap := [4]) (fun i ys σ H' => ∃ v1 v2 : Option V, σ = [v1, v2, some (.ref l)] ∧ ys = ((capW u ps).take i).map tx ∧ H' = H6) ⟨none, none, rfl, rfl, rfl⟩ (fun i ys σ H' hi ⟨_, _, _, e, _⟩ => ?_) (by omega) (fun i ys σ H' ⟨_, _, _, _, s1⟩ => by rw [s1]; exact SqT.of hx) ?_ ?_
    · rw [e, List.length_map, List.length_take]; omega
    · rintro i ys σ H7 y N hyi ⟨v1, v2, rfl, rfl, rfl⟩ hN
      obtain ⟨b, p, rfl, e, hb⟩ := hxs i y hyi
      obtain ⟨o1, o2, o3⟩ := hq.ok p (List.mem_of_getElem? e)
      have hat : atI ((hol u).map tx) (p.1 : Int) = some (tx ((hol u).getD p.1 [])) := by
        unfold atI ixN
        rw [if_pos (by omega), if_pos (by rw [List.length_map]; omega)]
        show ((hol u).map tx)[_]? = _
        rw [Int.toNat_natCast, List.getElem?_map, List.getElem?_eq_getElem o1, List.getD_eq_getElem?_getD, List.getElem?_eq_getElem o1]
        rfl
      have ec : (capW u ps)[i]? = some (rep p.2 ((hol u).getD p.1 [])) := by unfold capW; rw [List.getElem?_map, e]; rfl
      have hw12 := (hol_le U (getD_hol o1)).2
      refine ⟨b, _, rfl, SqT.of hb, rfl, _, _, rfl, _, _, rfl, rfl, ?_⟩
      refine ⟨_, rfl, _, rfl, l, _, _, _, rfl, rfl, SqL.of hl, hat, _, rfl, _, _, rfl, rfl, mulOk_toS _ (by omega) (by omega) (by omega), ?_⟩
      rw [rep_toS, Int.toNat_natCast]
      refine hN _ _ _ ⟨_, _, rfl, ?_, rfl⟩
      rw [take_map tx ec]
      rfl
    rintro ys σ H7 q ⟨v1, v2, rfl, rfl, rfl⟩ hq0
    rw [List.take_of_length_le (by unfold capW; rw [List.length_map]; omega)]
    have sA : Same H7 (upd H7 q (.lst ((capW u ps).map tx))) := Same.new hq0
    refine ⟨q, _, rfl, .inl ⟨SqL.of upd_same, fun du hdu => ?_⟩⟩
    have sB : Same H7 (upd (upd H7 q (.lst ((capW u ps).map tx))) du (.tup ((capW u ps).map tx))) := sA.trans (Same.new hdu)
    have fB : (upd (upd H7 q (.lst ((capW u ps).map tx))) du (.tup ((capW u ps).map tx))) du = some (.tup ((capW u ps).map tx)) := upd_same
    generalize upd (upd H7 q (.lst ((capW u ps).map tx))) du (.tup ((capW u ps).map tx)) = H8 at sB fB ⊢
    have F8 := F6.same sB
    have hl := sB _ _ hl
    have hq8 := hq.same sB
    have hqm := capW_mem (n := 0) U hq8
    have cl : (capW u ps).length ≤ 6 := by unfold capW; rw [List.length_map]; exact h6
    have shd : Sh (.tuple (dws (capW u ps))) := sh_words (fun w hw => (hqm w hw).2) cl
    refine ⟨_, rfl, _, rfl, u, .ref c, _, rfl, U, hq8.cs, fun H9 s9 => ?_⟩
    rw [hq8.ok' pw]
    refine ⟨_, _, rfl, rfl, _, rfl, iteD rfl ?_⟩
    refine ⟨_, rfl, _, rfl, u, c, ps, rfl, U, hq8.same s9, fun r4 H10 _ hr4 s10 => ?_⟩
    refine ⟨r4, _, rfl, .tup hr4 (dts_txs _), shd, _, rfl, du, _, rfl, .tup (s10 _ _ (s9 _ _ fB)) (dts_txs _), shd, rfl, _, rfl, iteNS rfl ?_⟩
    have s10 := s9.trans s10
    refine ⟨_, rfl, .ref du, [], _, rfl, .tup (s10 _ _ fB) (by simp) (fun y hy => ?_) (by rw [List.length_map]; omega), fun H11 s11 => ?_⟩
    · obtain ⟨v, hv, rfl⟩ := List.mem_map.mp hy
      exact ⟨.str (toS v) (by have := (hqm v hv).2; rw [toS_length]; omega), fun a ha => by cases ha⟩
    have er : (decide (((capW u ps).map tx).length ≤ 6) && ((capW u ps).map tx).all ringV) = true := by
      rw [List.length_map, decide_eq_true cl, Bool.true_and, List.all_eq_true]
      intro y hy
      obtain ⟨v, hv, rfl⟩ := List.mem_map.mp hy
      rw [ringV_tx]
      exact (hqm v hv).1
    rw [er]
    refine ⟨_, _, rfl, rfl, _, rfl, iteD rfl ?_⟩
    have s11 := s10.trans s11
    have F11 := F8.same s11
    have hl := s11 _ _ hl
    have hq11 := hq8.same s11
    clear s10 s9 hq8 fB hqm shd er
    -- the menu
    refine ⟨(by show 0 ≤ sizeLine; omega), fun p0 h0 => ?_⟩
    have s0 : Same H11 (upd H11 p0 (.lst [])) := Same.new h0
    have f0 : (upd H11 p0 (.lst [])) p0 = some (.lst []) := upd_same
    have S0 : Same H11 (upd H11 p0 (.lst [])) := s0
    generalize upd H11 p0 (.lst []) = G1 at s0 f0  S0 ⊢
    intro p1 h1
    have s1 : Same G1 (upd G1 p1 (.dK [])) := Same.new h1
    have f1 : (upd G1 p1 (.dK [])) p1 = some (.dK []) := upd_same
    replace f0 := s1 _ _ f0
    have S1 : Same H11 (upd G1 p1 (.dK [])) := S0.trans s1
    generalize upd G1 p1 (.dK []) = G2 at s1 f1 f0 S1 ⊢
    refine ⟨(by show 0 ≤ sizeLine; omega), fun p2 h2 => ?_⟩
    have s2 : Same G2 (upd G2 p2 (.tup [])) := Same.new h2
    have f2 : (upd G2 p2 (.tup [])) p2 = some (.tup []) := upd_same
    replace f0 := s2 _ _ f0
    replace f1 := s2 _ _ f1
    have S2 : Same H11 (upd G2 p2 (.tup [])) := S1.trans s2
    generalize upd G2 p2 (.tup []) = G3 at s2 f2 f0 f1 S2 ⊢
    refine ⟨(by show 2 ≤ sizeLine; omega), fun p3 h3 => ?_⟩
    have s3 : Same G3 (upd G3 p3 (.tup [.int 0, .int 1])) := Same.new h3
    have f3 : (upd G3 p3 (.tup [.int 0, .int 1])) p3 = some (.tup [.int 0, .int 1]) := upd_same
    replace f0 := s3 _ _ f0
    replace f1 := s3 _ _ f1
    replace f2 := s3 _ _ f2
    have S3 : Same H11 (upd G3 p3 (.tup [.int 0, .int 1])) := S2.trans s3
    generalize upd G3 p3 (.tup [.int 0, .int 1]) = G4 at s3 f3 f0 f1 f2 S3 ⊢
    refine ⟨(by show 1 ≤ sizeLine; omega), fun p4 h4 => ?_⟩
    have s4 : Same G4 (upd G4 p4 (.tup [.ref p3])) := Same.new h4
    have f4 : (upd G4 p4 (.tup [.ref p3])) p4 = some (.tup [.ref p3]) := upd_same
    replace f0 := s4 _ _ f0
    replace f1 := s4 _ _ f1
    replace f2 := s4 _ _ f2
    replace f3 := s4 _ _ f3
    have S4 : Same H11 (upd G4 p4 (.tup [.ref p3])) := S3.trans s4
    generalize upd G4 p4 (.tup [.ref p3]) = G5 at s4 f4 f0 f1 f2 f3 S4 ⊢
    refine ⟨(by show 2 ≤ sizeLine; omega), fun p5 h5 => ?_⟩
    have s5 : Same G5 (upd G5 p5 (.tup [.int 0, .int 1])) := Same.new h5
    have f5 : (upd G5 p5 (.tup [.int 0, .int 1])) p5 = some (.tup [.int 0, .int 1]) := upd_same
    replace f0 := s5 _ _ f0
    replace f1 := s5 _ _ f1
    replace f2 := s5 _ _ f2
    replace f3 := s5 _ _ f3
    replace f4 := s5 _ _ f4
    have S5 : Same H11 (upd G5 p5 (.tup [.int 0, .int 1])) := S4.trans s5
    generalize upd G5 p5 (.tup [.int 0, .int 1]) = G6 at s5 f5 f0 f1 f2 f3 f4 S5 ⊢
    refine ⟨_, rfl, by decide, by decide, ?_⟩
    refine comp_by (own := ["_law_hole"]) (cap := []) (J := Itr 0 7) 7 (fun i ys σ H' => ∃ v : Option V, σ = [v] ∧ ys.length = i ∧ Prs H' 1 ys ∧ Same G6 H')
      ⟨none, rfl, rfl, (fun i y e => by simp at e), Same.refl _⟩ (fun i ys σ H' hi ⟨v, _, e, _⟩ => by rw [e]; exact Nat.le_refl _) (by omega) (fun i ys σ H' hi _ => hi) (fun ys σ H' _ => Nat.le_refl _) ?_ ?_
    · rintro i ys σ H1 x H2 N hi ⟨v, rfl, hn, hp, s1⟩ ⟨rfl, rfl⟩ hN
      rw [Int.zero_add]
      refine ⟨_, rfl, (by show 2 ≤ sizeLine; omega), fun b hb => hN _ _ _ ⟨_, rfl, by rw [List.length_append, hn]; rfl, (hp.same (Same.new hb)).snoc hn upd_same, s1.then hb⟩⟩
    rintro ys1 σ G7 q1 ⟨v, rfl, hn1, hp1, t7⟩ hq1
    refine ⟨q1, _, rfl, .inl ⟨SqL.of upd_same, fun p6 h6' => ?_⟩⟩
    have s6 : Same G7 (upd (upd G7 q1 (.lst ys1)) p6 (.tup ys1)) := (Same.new hq1).then h6'
    have f6 : (upd (upd G7 q1 (.lst ys1)) p6 (.tup ys1)) p6 = some (.tup ys1) := upd_same
    generalize upd (upd G7 q1 (.lst ys1)) p6 (.tup ys1) = G8 at s6 f6 ⊢
    have s6' := t7.trans s6
    have S8 : Same H11 G8 := S5.trans s6'
    have hp1 := hp1.same s6
    have all : ∀ x ∈ ([.non, .bl true, .int 0, .str "", .ref p0, .ref p1, .ref p2, .ref p4, .ref p5, .str "aA", .ref p6] : List V), Mn G8 x :=
      (thf_cons (mn_one .non lf_non (by intro a e; cases e)) (thf_cons (mn_one (.bl true) (lf_bl true) (by intro a e; cases e)) (thf_cons (mn_one (.int 0) (lf_int (by omega) (by omega)).1 (by intro a e; cases e)) (thf_cons (mn_one (.str _) (lf_str (by decide +kernel) (by decide +kernel)) (by intro a e; cases e))
      (thf_cons (mn_lst (s6' _ _ f0) Prts.nil (by simp)) (thf_cons (mn_void (s6' _ _ f1)) (thf_cons (mn_tup (s6' _ _ f2) Prts.nil (by simp))
      (thf_cons (mn_tup (s6' _ _ f4) (Prts.cons (.tup (s6' _ _ f3) (.cons (.int 0) (.cons (.int 1) .nil))) (sm_of (w := 4) (ds := [.int 0, .int 1]) (fun d hd => by
        rcases List.mem_cons.mp hd with rfl | hd
        · exact lf_int (by omega) (by omega)
        · rw [List.mem_singleton] at hd
          subst hd
          exact lf_int (by omega) (by omega)) (by show 2 * 5 ≤ 400; decide)).1 Prts.nil) (by simp))
      (thf_cons (mn_tup (s6' _ _ f5) (Prts.cons (.int 0) (lf_int (by omega) (by omega)).1.sm (Prts.cons (.int 1) (lf_int (by omega) (by omega)).1.sm Prts.nil)) (by simp))
      (thf_cons (mn_one (.str _) (lf_str (by decide +kernel) (by decide +kernel)) (by intro a e; cases e))
      (thf_cons (mn_tup f6 (hp1.prts (by decide) (by omega)) (by omega)) thf_nil)))))))))))
    have ll : ([.non, .bl true, .int 0, .str "", .ref p0, .ref p1, .ref p2, .ref p4, .ref p5, .str "aA", .ref p6] : List V).length = 11 := rfl
    clear f0 f1 f2 f3 f4 f5 f6 s0 s1 s2 s3 s4 s5 s6 s6' S0 S1 S2 S3 S4 S5 t7 hp1
    refine ⟨(by show 11 ≤ sizeLine; omega), fun p8 h8 => ?_⟩
    have s8 : Same G8 (upd G8 p8 (.lst [.non, .bl true, .int 0, .str "", .ref p0, .ref p1, .ref p2, .ref p4, .ref p5, .str "aA", .ref p6])) := Same.new h8
    have f8 : (upd G8 p8 (.lst [.non, .bl true, .int 0, .str "", .ref p0, .ref p1, .ref p2, .ref p4, .ref p5, .str "aA", .ref p6])) p8 = some (.lst [.non, .bl true, .int 0, .str "", .ref p0, .ref p1, .ref p2, .ref p4, .ref p5, .str "aA", .ref p6]) := upd_same
    generalize upd G8 p8 (.lst [.non, .bl true, .int 0, .str "", .ref p0, .ref p1, .ref p2, .ref p4, .ref p5, .str "aA", .ref p6]) = G9 at s8 f8 ⊢
    generalize ([.non, .bl true, .int 0, .str "", .ref p0, .ref p1, .ref p2, .ref p4, .ref p5, .str "aA", .ref p6] : List V) = Xs at all ll f8
    have hl9 := s8 _ _ (S8 _ _ hl)
    refine ⟨_, rfl, .inl ⟨rfl, _, SqL.of f8⟩, ?_⟩
    refine ⟨_, rfl, l, _, rfl, .inl (SqL.of hl9), _, rfl, (by rw [List.length_map]; omega), (by rw [List.length_map]; omega), ?_⟩
    rw [List.length_map, Int.toNat_natCast]
    refine comp_by (own := ["_law_hole"]) (cap := []) (J := Itr 0 (hol u).length) (hol u).length (fun i ys σ H' => ∃ v : Option V, σ = [v] ∧ ys.length = i ∧ Prs H' 10 ys ∧ Same G9 H')
      ⟨none, rfl, rfl, (fun i y e => by simp at e), Same.refl _⟩ (fun i ys σ H' hi ⟨v, _, e, _⟩ => by rw [e]; exact Nat.le_refl _) (by omega) (fun i ys σ H' hi _ => hi) (fun ys σ H' _ => Nat.le_refl _) ?_ ?_
    · rintro i ys σ H1 x H2 N hi ⟨v, rfl, hn, hp, s1⟩ ⟨rfl, rfl⟩ hN
      rw [Int.zero_add]
      refine ⟨_, rfl, (by show 2 ≤ sizeLine; omega), fun b hb => hN _ _ _ ⟨_, rfl, by rw [List.length_append, hn]; rfl, (hp.same (Same.new hb)).snoc hn upd_same, s1.then hb⟩⟩
    rintro ys2 σ GA q2 ⟨v, rfl, hn2, hp2, tA⟩ hq2
    refine ⟨q2, _, rfl, .inl ⟨SqL.of upd_same, fun p9 h9 => ?_⟩⟩
    have sB : Same GA (upd (upd GA q2 (.lst ys2)) p9 (.tup ys2)) := (Same.new hq2).then h9
    have fB : (upd (upd GA q2 (.lst ys2)) p9 (.tup ys2)) p9 = some (.tup ys2) := upd_same
    generalize upd (upd GA q2 (.lst ys2)) p9 (.tup ys2) = GB at sB fB ⊢
    have sB' := tA.trans sB
    have hp2 := hp2.same sB
    have f8B := sB' _ _ f8
    refine ⟨p8, _, _, rfl, rfl, f8B, by omega, ?_⟩
    have SC : Same G8 (upd GB p8 (.lst (Xs ++ [.ref p9]))) := same_over h8 (s8.trans sB')
    have fC : (upd GB p8 (.lst (Xs ++ [.ref p9]))) p8 = some (.lst (Xs ++ [.ref p9])) := upd_same
    have hp2 : Prs (upd GB p8 (.lst (Xs ++ [.ref p9]))) 10 ys2 := hp2.but f8B
    have fD : (upd GB p8 (.lst (Xs ++ [.ref p9]))) p9 = some (.tup ys2) := by rw [upd_ne (ne_of fB f8B (by intro z; cases z))]; exact fB
    generalize upd GB p8 (.lst (Xs ++ [.ref p9])) = GC at SC fC hp2 fD ⊢
    have all : ∀ x ∈ Xs ++ [.ref p9], Mn GC x := fun x hx => by
      rcases List.mem_append.mp hx with hx | hx
      · exact (all x hx).same SC
      · rw [List.mem_singleton] at hx
        subst hx
        exact mn_tup fD (hp2.prts (by decide) (by omega)) (by omega)
    have ll : (Xs ++ [V.ref p9]).length = 12 := by rw [List.length_append, ll]; rfl
    have SD := S8.trans SC
    have FC := F11.same SD
    have hlC := SD _ _ hl
    have hqC := hq11.same SD
    clear SC s8 f8 hl9 f8B sB sB' tA fB fD hp2 SD S8 hl hq11 F11
    generalize Xs ++ [V.ref p9] = Ys at all ll fC ⊢
    -- bent things
    refine ⟨_, rfl, _, rfl, by decide, by decide, ?_⟩
    refine comp_by (own := ["_law_turn"]) (cap := [1, 5, 4]) (J := Itr 0 4) 4 (fun i ys σ H' => ∃ v : Option V, σ = [v, some (.ref d), some (.ref c), some (.ref l)] ∧ ys.length = i ∧ (∀ y ∈ ys, Mn H' y) ∧ Fd H' d ∧ SameB d GC H')
      ⟨none, rfl, rfl, (fun y e => by cases e), FC, SameB.refl _ _⟩ (fun i ys σ H' hi ⟨v, _, e, _⟩ => by rw [e]; exact Nat.le_refl _) (by omega) (fun i ys σ H' hi _ => hi) (fun ys σ H' _ => Nat.le_refl _) ?_ ?_
    · rintro i ys σ H1 x H2 N hi ⟨v, rfl, hn, hp, F1, s1⟩ ⟨rfl, rfl⟩ hN
      refine ⟨_, rfl, _, rfl, l, _, rfl, .inl (SqL.of (s1 _ _ (FC.nl hlC) hlC)), _, rfl, d, c, (hol u).length, ps, (by rw [List.length_map]; rfl), F1, by omega, hqC.sb FC s1, fun y dd H3 B F3 sb3 => ?_⟩
      refine hN _ _ _ ⟨_, rfl, by rw [List.length_append, hn]; rfl, fun z hz => ?_, F3, s1.trans sb3⟩
      rcases List.mem_append.mp hz with hz | hz
      · exact (hp z hz).sb F1 sb3
      · rw [List.mem_singleton] at hz
        subst hz
        exact .inl ⟨dd, B⟩
    rintro ys3 σ GD q3 ⟨v, rfl, hn3, hp3, FD, sD⟩ hq3
    have sE : Same GD (upd GD q3 (.lst ys3)) := Same.new hq3
    have fE : (upd GD q3 (.lst ys3)) q3 = some (.lst ys3) := upd_same
    generalize upd GD q3 (.lst ys3) = GE at sE fE ⊢
    have hlE := sE _ _ (sD _ _ (FC.nl hlC) hlC)
    have all : ∀ x ∈ Ys ++ ys3, Mn GE x := fun x hx => by
      rcases List.mem_append.mp hx with hx | hx
      · exact ((all x hx).sb FC sD).same sE
      · exact (hp3 x hx).same sE
    have FE := FD.same sE
    refine ⟨p8, q3, _, _, rfl, rfl, sE _ _ (sD _ _ (FC.nl fC) fC), fE, (by omega), fun p10 h10 => ?_⟩
    have sF : Same GE (upd GE p10 (.lst (Ys ++ ys3))) := Same.new h10
    have fF : (upd GE p10 (.lst (Ys ++ ys3))) p10 = some (.lst (Ys ++ ys3)) := upd_same
    generalize upd GE p10 (.lst (Ys ++ ys3)) = GF at sF fF ⊢
    have hlF := sF _ _ hlE
    have FF := FE.same sF
    have all : ∀ x ∈ Ys ++ ys3, Mn GF x := fun x hx => (all x hx).same sF
    refine ⟨p10, rfl, ⟨_, SqL.of fF⟩, for_list (xs := Ys ++ ys3) (fun j σ H' => ∃ (b8 b9 : Option V), σ = [some (.ref a), some (.ref d), some (.int (0 + (i : Int))), some (tx u), some (.ref l), some (.ref c), some (.ref du), some (.ref p8), b8, b9] ∧ Same GF H') ⟨_, _, rfl, Same.refl _⟩ (fun j σ H' hj ⟨_, _, _, s1⟩ => SqL.of (s1 _ _ fF)) ?_ ?_⟩
    · rintro j x σ H1 hx ⟨b8, b9, rfl, s1⟩
      have M1 := (all x (List.mem_of_getElem? hx)).same s1
      obtain ⟨z, hz⟩ := M1.shw
      obtain ⟨cs, hcs⟩ := M1.cs (K := K)
      refine ⟨_, rfl, x, z, rfl, hz, ?_⟩
      refine ⟨_, rfl, _, rfl, u, x, cs, rfl, U, hcs, fun H2 s2 => ⟨_, rfl, ?_⟩⟩
      refine ⟨_, rfl, l, _, rfl, .inl (SqL.of ((s1.trans s2) _ _ hlF)), _, rfl, (hol u).length, x, cs, (by rw [List.length_map]; rfl), hcs.same s2, fun H3 s3 => ⟨_, rfl, rfl, _, rfl, iteNS rfl ?_⟩⟩
      refine ⟨_, rfl, x, z, rfl, hz.same (s2.trans s3), _, rfl, rfl, _, rfl, iteNS rfl ?_⟩
      exact ⟨_, _, rfl, s1.trans (s2.trans s3)⟩
    · rintro σ H1 ⟨b8, b9, rfl, s1⟩
      exact ⟨_, _, _, _, _, _, _, _, rfl, FF.same s1⟩
end
end Kx
set_option Elab.async false
set_option linter.all false
set_option maxRecDepth 100000
set_option maxHeartbeats 0
namespace Kx
open PySem PySem.Spec PyProof.Rows L2 Wd
theorem df_mk {K : PySem.W.Frag} {h : Heap} {mg : Str → Option Value} {x : Str} {st : Stmt} {f : Addr} {oc : Value} {od an : Option Addr} {osl : Array (Option Value)} {kV doc pm cdv ct : Value} (X : K.In h) (G : h.Ns mainGlobals mg) (a : PySem.W.nsIn K mainGlobals x = some (some (.ref f)))
    (l : K.lookup f = some ⟨oc, od, .func (PySem.W.fnOf x x (defArgs st) (defBody st) (defScope st) .none kV doc pm an cdv ct), osl⟩) (c : PySem.W.codeIn K cdv x = true) (k : PySem.W.keepIn K (.ref f) = true) : Df K mg x st := ⟨f, _, PySem.W.mg_of X G a, fun_mk l c k⟩
theorem all_mk {l : PySem.W.OpenLaw} {w : World} {K : PySem.W.Frag} {h : Heap} {mg : Str → Option Value} {fa : Addr} (X : K.In h) (G : h.Ns mainGlobals mg) (hfa : mg "law" = some (.ref fa))
    {f0 : Addr} {od0 an0 : Option Addr} {sl0 : Array (Option Value)} {oc0 kV0 dc0 pm0 cd0 ct0 : Value} {f1 : Addr} {od1 an1 : Option Addr} {sl1 : Array (Option Value)} {oc1 kV1 dc1 pm1 cd1 ct1 : Value} {f2 : Addr} {od2 an2 : Option Addr} {sl2 : Array (Option Value)} {oc2 kV2 dc2 pm2 cd2 ct2 : Value} {f3 : Addr} {od3 an3 : Option Addr} {sl3 : Array (Option Value)} {oc3 kV3 dc3 pm3 cd3 ct3 : Value} {f4 : Addr} {od4 an4 : Option Addr} {sl4 : Array (Option Value)} {oc4 kV4 dc4 pm4 cd4 ct4 : Value} {f5 : Addr} {od5 an5 : Option Addr} {sl5 : Array (Option Value)} {oc5 kV5 dc5 pm5 cd5 ct5 : Value} {f6 : Addr} {od6 an6 : Option Addr} {sl6 : Array (Option Value)} {oc6 kV6 dc6 pm6 cd6 ct6 : Value} {f7 : Addr} {od7 an7 : Option Addr} {sl7 : Array (Option Value)} {oc7 kV7 dc7 pm7 cd7 ct7 : Value} {f8 : Addr} {od8 an8 : Option Addr} {sl8 : Array (Option Value)} {oc8 kV8 dc8 pm8 cd8 ct8 : Value} {f9 : Addr} {od9 an9 : Option Addr} {sl9 : Array (Option Value)} {oc9 kV9 dc9 pm9 cd9 ct9 : Value} {f10 : Addr} {od10 an10 : Option Addr} {sl10 : Array (Option Value)} {oc10 kV10 dc10 pm10 cd10 ct10 : Value} {f11 : Addr} {od11 an11 : Option Addr} {sl11 : Array (Option Value)} {oc11 kV11 dc11 pm11 cd11 ct11 : Value} {f12 : Addr} {od12 an12 : Option Addr} {sl12 : Array (Option Value)} {oc12 kV12 dc12 pm12 cd12 ct12 : Value} {f13 : Addr} {od13 an13 : Option Addr} {sl13 : Array (Option Value)} {oc13 kV13 dc13 pm13 cd13 ct13 : Value} {f14 : Addr} {od14 an14 : Option Addr} {sl14 : Array (Option Value)} {oc14 kV14 dc14 pm14 cd14 ct14 : Value} {f15 : Addr} {od15 an15 : Option Addr} {sl15 : Array (Option Value)} {oc15 kV15 dc15 pm15 cd15 ct15 : Value} {f16 : Addr} {od16 an16 : Option Addr} {sl16 : Array (Option Value)} {oc16 kV16 dc16 pm16 cd16 ct16 : Value} {f17 : Addr} {od17 an17 : Option Addr} {sl17 : Array (Option Value)} {oc17 kV17 dc17 pm17 cd17 ct17 : Value} {f18 : Addr} {od18 an18 : Option Addr} {sl18 : Array (Option Value)} {oc18 kV18 dc18 pm18 cd18 ct18 : Value} {f19 : Addr} {od19 an19 : Option Addr} {sl19 : Array (Option Value)} {oc19 kV19 dc19 pm19 cd19 ct19 : Value} {f20 : Addr} {od20 an20 : Option Addr} {sl20 : Array (Option Value)} {oc20 kV20 dc20 pm20 cd20 ct20 : Value} {f21 : Addr} {od21 an21 : Option Addr} {sl21 : Array (Option Value)} {oc21 kV21 dc21 pm21 cd21 ct21 : Value} {f22 : Addr} {od22 an22 : Option Addr} {sl22 : Array (Option Value)} {oc22 kV22 dc22 pm22 cd22 ct22 : Value} {f23 : Addr} {od23 an23 : Option Addr} {sl23 : Array (Option Value)} {oc23 kV23 dc23 pm23 cd23 ct23 : Value} {aB : Addr} {es : Array DictEntry} {en : Nat} {tS : Tok}   {tM tR tL : Tok}   {tC tT : Tok}   {t0 t1 t2 t3 t4 t5 t6 t7 t8 t9 t10 t11 : Tok}
    (a0 : PySem.W.nsIn K mainGlobals "is_letter" = some (some (.ref f0)))
    (l0 : K.lookup f0 = some ⟨oc0, od0, .func (PySem.W.fnOf "is_letter" "is_letter" (defArgs s_letter) (defBody s_letter) (defScope s_letter) .none kV0 dc0 pm0 an0 cd0 ct0), sl0⟩)
    (c0 : PySem.W.codeIn K cd0 "is_letter" = true)
    (k0 : PySem.W.keepIn K (.ref f0) = true)
    (a1 : PySem.W.nsIn K mainGlobals "is_word" = some (some (.ref f1)))
    (l1 : K.lookup f1 = some ⟨oc1, od1, .func (PySem.W.fnOf "is_word" "is_word" (defArgs s_word) (defBody s_word) (defScope s_word) .none kV1 dc1 pm1 an1 cd1 ct1), sl1⟩)
    (c1 : PySem.W.codeIn K cd1 "is_word" = true)
    (k1 : PySem.W.keepIn K (.ref f1) = true)
    (a2 : PySem.W.nsIn K mainGlobals "number_of" = some (some (.ref f2)))
    (l2 : K.lookup f2 = some ⟨oc2, od2, .func (PySem.W.fnOf "number_of" "number_of" (defArgs s_num) (defBody s_num) (defScope s_num) .none kV2 dc2 pm2 an2 cd2 ct2), sl2⟩)
    (c2 : PySem.W.codeIn K cd2 "number_of" = true)
    (k2 : PySem.W.keepIn K (.ref f2) = true)
    (a3 : PySem.W.nsIn K mainGlobals "back" = some (some (.ref f3)))
    (l3 : K.lookup f3 = some ⟨oc3, od3, .func (PySem.W.fnOf "back" "back" (defArgs s_back) (defBody s_back) (defScope s_back) .none kV3 dc3 pm3 an3 cd3 ct3), sl3⟩)
    (c3 : PySem.W.codeIn K cd3 "back" = true)
    (k3 : PySem.W.keepIn K (.ref f3) = true)
    (a4 : PySem.W.nsIn K mainGlobals "is_reduced" = some (some (.ref f4)))
    (l4 : K.lookup f4 = some ⟨oc4, od4, .func (PySem.W.fnOf "is_reduced" "is_reduced" (defArgs s_isred) (defBody s_isred) (defScope s_isred) .none kV4 dc4 pm4 an4 cd4 ct4), sl4⟩)
    (c4 : PySem.W.codeIn K cd4 "is_reduced" = true)
    (k4 : PySem.W.keepIn K (.ref f4) = true)
    (a5 : PySem.W.nsIn K mainGlobals "is_round" = some (some (.ref f5)))
    (l5 : K.lookup f5 = some ⟨oc5, od5, .func (PySem.W.fnOf "is_round" "is_round" (defArgs s_isround) (defBody s_isround) (defScope s_isround) .none kV5 dc5 pm5 an5 cd5 ct5), sl5⟩)
    (c5 : PySem.W.codeIn K cd5 "is_round" = true)
    (k5 : PySem.W.keepIn K (.ref f5) = true)
    (a6 : PySem.W.nsIn K mainGlobals "holes" = some (some (.ref f6)))
    (l6 : K.lookup f6 = some ⟨oc6, od6, .func (PySem.W.fnOf "holes" "holes" (defArgs s_holes) (defBody s_holes) (defScope s_holes) .none kV6 dc6 pm6 an6 cd6 ct6), sl6⟩)
    (c6 : PySem.W.codeIn K cd6 "holes" = true)
    (k6 : PySem.W.keepIn K (.ref f6) = true)
    (a7 : PySem.W.nsIn K mainGlobals "hole_from" = some (some (.ref f7)))
    (l7 : K.lookup f7 = some ⟨oc7, od7, .func (PySem.W.fnOf "hole_from" "hole_from" (defArgs s_hole) (defBody s_hole) (defScope s_hole) .none kV7 dc7 pm7 an7 cd7 ct7), sl7⟩)
    (c7 : PySem.W.codeIn K cd7 "hole_from" = true)
    (k7 : PySem.W.keepIn K (.ref f7) = true)
    (a8 : PySem.W.nsIn K mainGlobals "is_whole" = some (some (.ref f8)))
    (l8 : K.lookup f8 = some ⟨oc8, od8, .func (PySem.W.fnOf "is_whole" "is_whole" (defArgs s_whole) (defBody s_whole) (defScope s_whole) .none kV8 dc8 pm8 an8 cd8 ct8), sl8⟩)
    (c8 : PySem.W.codeIn K cd8 "is_whole" = true)
    (k8 : PySem.W.keepIn K (.ref f8) = true)
    (a9 : PySem.W.nsIn K mainGlobals "is_caps" = some (some (.ref f9)))
    (l9 : K.lookup f9 = some ⟨oc9, od9, .func (PySem.W.fnOf "is_caps" "is_caps" (defArgs s_caps) (defBody s_caps) (defScope s_caps) .none kV9 dc9 pm9 an9 cd9 ct9), sl9⟩)
    (c9 : PySem.W.codeIn K cd9 "is_caps" = true)
    (k9 : PySem.W.keepIn K (.ref f9) = true)
    (a10 : PySem.W.nsIn K mainGlobals "is_cap" = some (some (.ref f10)))
    (l10 : K.lookup f10 = some ⟨oc10, od10, .func (PySem.W.fnOf "is_cap" "is_cap" (defArgs s_cap) (defBody s_cap) (defScope s_cap) .none kV10 dc10 pm10 an10 cd10 ct10), sl10⟩)
    (c10 : PySem.W.codeIn K cd10 "is_cap" = true)
    (k10 : PySem.W.keepIn K (.ref f10) = true)
    (a11 : PySem.W.nsIn K mainGlobals "capped" = some (some (.ref f11)))
    (l11 : K.lookup f11 = some ⟨oc11, od11, .func (PySem.W.fnOf "capped" "capped" (defArgs s_capped) (defBody s_capped) (defScope s_capped) .none kV11 dc11 pm11 an11 cd11 ct11), sl11⟩)
    (c11 : PySem.W.codeIn K cd11 "capped" = true)
    (k11 : PySem.W.keepIn K (.ref f11) = true)
    (a12 : PySem.W.nsIn K mainGlobals "is_rings" = some (some (.ref f12)))
    (l12 : K.lookup f12 = some ⟨oc12, od12, .func (PySem.W.fnOf "is_rings" "is_rings" (defArgs s_rings) (defBody s_rings) (defScope s_rings) .none kV12 dc12 pm12 an12 cd12 ct12), sl12⟩)
    (c12 : PySem.W.codeIn K cd12 "is_rings" = true)
    (k12 : PySem.W.keepIn K (.ref f12) = true)
    (a13 : PySem.W.nsIn K mainGlobals "is_ring" = some (some (.ref f13)))
    (l13 : K.lookup f13 = some ⟨oc13, od13, .func (PySem.W.fnOf "is_ring" "is_ring" (defArgs s_rng) (defBody s_rng) (defScope s_rng) .none kV13 dc13 pm13 an13 cd13 ct13), sl13⟩)
    (c13 : PySem.W.codeIn K cd13 "is_ring" = true)
    (k13 : PySem.W.keepIn K (.ref f13) = true)
    (a14 : PySem.W.nsIn K mainGlobals "_law_feed" = some (some (.ref f14)))
    (l14 : K.lookup f14 = some ⟨oc14, od14, .func (PySem.W.fnOf "_law_feed" "_law_feed" (defArgs s_feed) (defBody s_feed) (defScope s_feed) .none kV14 dc14 pm14 an14 cd14 ct14), sl14⟩)
    (c14 : PySem.W.codeIn K cd14 "_law_feed" = true)
    (k14 : PySem.W.keepIn K (.ref f14) = true)
    (a15 : PySem.W.nsIn K mainGlobals "_law_draw" = some (some (.ref f15)))
    (l15 : K.lookup f15 = some ⟨oc15, od15, .func (PySem.W.fnOf "_law_draw" "_law_draw" (defArgs s_draw) (defBody s_draw) (defScope s_draw) .none kV15 dc15 pm15 an15 cd15 ct15), sl15⟩)
    (c15 : PySem.W.codeIn K cd15 "_law_draw" = true)
    (k15 : PySem.W.keepIn K (.ref f15) = true)
    (a16 : PySem.W.nsIn K mainGlobals "_law_back" = some (some (.ref f16)))
    (l16 : K.lookup f16 = some ⟨oc16, od16, .func (PySem.W.fnOf "_law_back" "_law_back" (defArgs s_lback) (defBody s_lback) (defScope s_lback) .none kV16 dc16 pm16 an16 cd16 ct16), sl16⟩)
    (c16 : PySem.W.codeIn K cd16 "_law_back" = true)
    (k16 : PySem.W.keepIn K (.ref f16) = true)
    (a17 : PySem.W.nsIn K mainGlobals "_law_surface" = some (some (.ref f17)))
    (l17 : K.lookup f17 = some ⟨oc17, od17, .func (PySem.W.fnOf "_law_surface" "_law_surface" (defArgs s_surf) (defBody s_surf) (defScope s_surf) .none kV17 dc17 pm17 an17 cd17 ct17), sl17⟩)
    (c17 : PySem.W.codeIn K cd17 "_law_surface" = true)
    (k17 : PySem.W.keepIn K (.ref f17) = true)
    (a18 : PySem.W.nsIn K mainGlobals "_law_holes" = some (some (.ref f18)))
    (l18 : K.lookup f18 = some ⟨oc18, od18, .func (PySem.W.fnOf "_law_holes" "_law_holes" (defArgs s_lholes) (defBody s_lholes) (defScope s_lholes) .none kV18 dc18 pm18 an18 cd18 ct18), sl18⟩)
    (c18 : PySem.W.codeIn K cd18 "_law_holes" = true)
    (k18 : PySem.W.keepIn K (.ref f18) = true)
    (a19 : PySem.W.nsIn K mainGlobals "_law_caps" = some (some (.ref f19)))
    (l19 : K.lookup f19 = some ⟨oc19, od19, .func (PySem.W.fnOf "_law_caps" "_law_caps" (defArgs s_lcaps) (defBody s_lcaps) (defScope s_lcaps) .none kV19 dc19 pm19 an19 cd19 ct19), sl19⟩)
    (c19 : PySem.W.codeIn K cd19 "_law_caps" = true)
    (k19 : PySem.W.keepIn K (.ref f19) = true)
    (a20 : PySem.W.nsIn K mainGlobals "_law_is_between" = some (some (.ref f20)))
    (l20 : K.lookup f20 = some ⟨oc20, od20, .func (PySem.W.fnOf "_law_is_between" "_law_is_between" (defArgs s_btw) (defBody s_btw) (defScope s_btw) .none kV20 dc20 pm20 an20 cd20 ct20), sl20⟩)
    (c20 : PySem.W.codeIn K cd20 "_law_is_between" = true)
    (k20 : PySem.W.keepIn K (.ref f20) = true)
    (a21 : PySem.W.nsIn K mainGlobals "_law_is_caps" = some (some (.ref f21)))
    (l21 : K.lookup f21 = some ⟨oc21, od21, .func (PySem.W.fnOf "_law_is_caps" "_law_is_caps" (defArgs s_liscaps) (defBody s_liscaps) (defScope s_liscaps) .none kV21 dc21 pm21 an21 cd21 ct21), sl21⟩)
    (c21 : PySem.W.codeIn K cd21 "_law_is_caps" = true)
    (k21 : PySem.W.keepIn K (.ref f21) = true)
    (a22 : PySem.W.nsIn K mainGlobals "_law_bent" = some (some (.ref f22)))
    (l22 : K.lookup f22 = some ⟨oc22, od22, .func (PySem.W.fnOf "_law_bent" "_law_bent" (defArgs s_bent) (defBody s_bent) (defScope s_bent) .none kV22 dc22 pm22 an22 cd22 ct22), sl22⟩)
    (c22 : PySem.W.codeIn K cd22 "_law_bent" = true)
    (k22 : PySem.W.keepIn K (.ref f22) = true)
    (a23 : PySem.W.nsIn K mainGlobals "law" = some (some (.ref f23)))
    (l23 : K.lookup f23 = some ⟨oc23, od23, .func (PySem.W.fnOf "law" "law" (defArgs s_law) (defBody s_law) (defScope s_law) .none kV23 dc23 pm23 an23 cd23 ct23), sl23⟩)
    (c23 : PySem.W.codeIn K cd23 "law" = true)
    (k23 : PySem.W.keepIn K (.ref f23) = true)
    (z_len : PySem.W.nsIn K mainGlobals "len" = some none)
    (z_repr : PySem.W.nsIn K mainGlobals "repr" = some none)
    (z_abs : PySem.W.nsIn K mainGlobals "abs" = some none)
    (z_max : PySem.W.nsIn K mainGlobals "max" = some none)
    (z_int : PySem.W.nsIn K mainGlobals "int" = some none)
    (z_list : PySem.W.nsIn K mainGlobals "list" = some none)
    (z_range : PySem.W.nsIn K mainGlobals "range" = some none)
    (z_reversed : PySem.W.nsIn K mainGlobals "reversed" = some none)
    (z_min : PySem.W.nsIn K mainGlobals "min" = some none)
    (z_sorted : PySem.W.nsIn K mainGlobals "sorted" = some none)
    (z_tuple : PySem.W.nsIn K mainGlobals "tuple" = some none)
    (z_isinstance : PySem.W.nsIn K mainGlobals "isinstance" = some none)
    (z_all : PySem.W.nsIn K mainGlobals "all" = some none)
    (z_str : PySem.W.nsIn K mainGlobals "str" = some none)
    (z_zip : PySem.W.nsIn K mainGlobals "zip" = some none)
    (aBk : PySem.W.nsIn K mainGlobals "BACKS" = some (some (.ref aB)))
    (lB : K.lookup aB = some ⟨.type "dict", none, .dict es en, #[]⟩)
    (kB : PySem.W.KeysLit w.params es.toList)
    (aS : PySem.W.nsIn K mainGlobals "SMALL" = some (some (.str "abcdef" tS)))
    (kN : es.toList.map keyT = letters)
    (lo : (aB == sysModules) = false)
    (aM : PySem.W.nsIn K mainGlobals "MOST_MANY" = some (some (.int 6 tM)))
    (aR : PySem.W.nsIn K mainGlobals "MOST_RINGS" = some (some (.int 6 tR)))
    (aL : PySem.W.nsIn K mainGlobals "MOST_RING_LETTERS" = some (some (.int 120 tL)))
    (aC : PySem.W.nsIn K mainGlobals "MOST_CAPS" = some (some (.int 6 tC)))
    (aT : PySem.W.nsIn K mainGlobals "MOST_TIMES" = some (some (.int 10 tT)))
    (z_bool : PySem.W.nsIn K mainGlobals "bool" = some none)
    (gl0 : PySem.W.nsIn K aB "a" = some (some (.str "A" t0)))
    (gl1 : PySem.W.nsIn K aB "b" = some (some (.str "B" t1)))
    (gl2 : PySem.W.nsIn K aB "c" = some (some (.str "C" t2)))
    (gl3 : PySem.W.nsIn K aB "d" = some (some (.str "D" t3)))
    (gl4 : PySem.W.nsIn K aB "e" = some (some (.str "E" t4)))
    (gl5 : PySem.W.nsIn K aB "f" = some (some (.str "F" t5)))
    (gl6 : PySem.W.nsIn K aB "A" = some (some (.str "a" t6)))
    (gl7 : PySem.W.nsIn K aB "B" = some (some (.str "b" t7)))
    (gl8 : PySem.W.nsIn K aB "C" = some (some (.str "c" t8)))
    (gl9 : PySem.W.nsIn K aB "D" = some (some (.str "d" t9)))
    (gl10 : PySem.W.nsIn K aB "E" = some (some (.str "e" t10)))
    (gl11 : PySem.W.nsIn K aB "F" = some (some (.str "f" t11))) :
    ∃ fd : FuncData, (∀ (s : Shared) (v : Value), BindsTo s fd ⟨[v], []⟩ [("_law_script", v)]) ∧ ∀ base : Heap, K.In base → base.Ns mainGlobals mg → FnOk l.prog w K mg base CX0 6 fa fd ["_law_script"] (spLaw K) := by
  have e := hfa.symm.trans (PySem.W.mg_of X G a23)
  cases e
  have gB : ∀ x : L, ∃ t, PySem.W.nsIn K aB (toS [x]) = some (some (.str (toS [inv x]) t)) := by
    have q : ∀ (x : L) (u v : Str) (t : Tok), PySem.W.nsIn K aB u = some (some (.str v t)) → toS [x] = u → toS [inv x] = v → ∃ t, PySem.W.nsIn K aB (toS [x]) = some (some (.str (toS [inv x]) t)) := fun x u v t g e1 e2 => ⟨t, by rw [e1, e2]; exact g⟩
    intro x
    match x with
    | ⟨0, _⟩ => exact q 0 "a" "A" _ gl0 (by decide +kernel) (by decide +kernel)
    | ⟨1, _⟩ => exact q 1 "b" "B" _ gl1 (by decide +kernel) (by decide +kernel)
    | ⟨2, _⟩ => exact q 2 "c" "C" _ gl2 (by decide +kernel) (by decide +kernel)
    | ⟨3, _⟩ => exact q 3 "d" "D" _ gl3 (by decide +kernel) (by decide +kernel)
    | ⟨4, _⟩ => exact q 4 "e" "E" _ gl4 (by decide +kernel) (by decide +kernel)
    | ⟨5, _⟩ => exact q 5 "f" "F" _ gl5 (by decide +kernel) (by decide +kernel)
    | ⟨6, _⟩ => exact q 6 "A" "a" _ gl6 (by decide +kernel) (by decide +kernel)
    | ⟨7, _⟩ => exact q 7 "B" "b" _ gl7 (by decide +kernel) (by decide +kernel)
    | ⟨8, _⟩ => exact q 8 "C" "c" _ gl8 (by decide +kernel) (by decide +kernel)
    | ⟨9, _⟩ => exact q 9 "D" "d" _ gl9 (by decide +kernel) (by decide +kernel)
    | ⟨10, _⟩ => exact q 10 "E" "e" _ gl10 (by decide +kernel) (by decide +kernel)
    | ⟨11, _⟩ => exact q 11 "F" "f" _ gl11 (by decide +kernel) (by decide +kernel)
  have T : Bt K w mg aB := ⟨PySem.W.mg_none_of X G z_len, PySem.W.mg_none_of X G z_repr, PySem.W.mg_none_of X G z_abs, PySem.W.mg_none_of X G z_max, PySem.W.mg_none_of X G z_int, PySem.W.mg_none_of X G z_list, PySem.W.mg_none_of X G z_range, PySem.W.mg_none_of X G z_reversed, PySem.W.mg_none_of X G z_min, PySem.W.mg_none_of X G z_sorted, PySem.W.mg_none_of X G z_tuple, PySem.W.mg_none_of X G z_isinstance, PySem.W.mg_none_of X G z_all, PySem.W.mg_none_of X G z_str, PySem.W.mg_none_of X G z_zip, PySem.W.mg_of X G aBk, ⟨es, en, lB, kB⟩, gB⟩
  have B : Bk K aB := bk_mk lo lB kB kN
  have S : ∃ t, mg "SMALL" = some (.str "abcdef" t) := ⟨_, PySem.W.mg_of X G aS⟩
  have MM : ∃ t, mg "MOST_MANY" = some (.int 6 t) := ⟨_, PySem.W.mg_of X G aM⟩
  have MR : ∃ t, mg "MOST_RINGS" = some (.int 6 t) := ⟨_, PySem.W.mg_of X G aR⟩
  have ML : ∃ t, mg "MOST_RING_LETTERS" = some (.int 120 t) := ⟨_, PySem.W.mg_of X G aL⟩
  have MC : ∃ t, mg "MOST_CAPS" = some (.int 6 t) := ⟨_, PySem.W.mg_of X G aC⟩
  have MT : ∃ t, mg "MOST_TIMES" = some (.int 10 t) := ⟨_, PySem.W.mg_of X G aT⟩
  refine ⟨PySem.W.fnOf "law" "law" (defArgs s_law) (defBody s_law) (defScope s_law) .none kV23 dc23 pm23 an23 cd23 ct23, fun s v => .of_eq rfl, fun base _ _ => ?_⟩
  have F_letter := c_letter (P := l.prog) (w := w) (base := base) (df_mk X G a0 l0 c0 k0) T B
  have F_num := c_num (P := l.prog) (w := w) (base := base) (df_mk X G a2 l2 c2 k2) T S
  have F_word := c_word (P := l.prog) (w := w) (base := base) (df_mk X G a1 l1 c1 k1) T F_letter F_num
  have F_back := c_back (P := l.prog) (w := w) (base := base) (df_mk X G a3 l3 c3 k3) T
  have F_isred := c_isred (P := l.prog) (w := w) (base := base) (df_mk X G a4 l4 c4 k4) T
  have F_isround := c_isround (P := l.prog) (w := w) (base := base) (df_mk X G a5 l5 c5 k5) T F_isred
  have F_rng := c_rng (P := l.prog) (w := w) (base := base) (df_mk X G a13 l13 c13 k13) T MM ML F_word F_isround
  have F_rings := c_rings (P := l.prog) (w := w) (base := base) (df_mk X G a12 l12 c12 k12) T MR F_rng
  have F_hole := c_hole (P := l.prog) (w := w) (base := base) (df_mk X G a7 l7 c7 k7) T F_back
  have F_holes := c_holes (P := l.prog) (w := w) (base := base) (df_mk X G a6 l6 c6 k6) T F_hole
  have F_whole := c_whole (P := l.prog) (w := w) (base := base) (df_mk X G a8 l8 c8 k8) T (PySem.W.mg_none_of X G z_bool)
  have F_cap := c_cap (P := l.prog) (w := w) (base := base) (df_mk X G a10 l10 c10 k10) T MT F_whole
  have F_caps := c_caps (P := l.prog) (w := w) (base := base) (df_mk X G a9 l9 c9 k9) T MC F_holes F_cap
  have F_capped := c_capped (P := l.prog) (w := w) (base := base) (df_mk X G a11 l11 c11 k11) T F_holes
  have F_feed := c_feed (P := l.prog) (w := w) (base := base) (df_mk X G a14 l14 c14 k14) T
  have F_draw := c_draw (P := l.prog) (w := w) (base := base) (df_mk X G a15 l15 c15 k15) T
  have F_lback := c_lback (P := l.prog) (w := w) (base := base) (df_mk X G a16 l16 c16 k16) 
  have F_surf := c_surf (P := l.prog) (w := w) (base := base) (df_mk X G a17 l17 c17 k17) T F_draw
  have F_lholes := c_lholes (P := l.prog) (w := w) (base := base) (df_mk X G a18 l18 c18 k18) T F_lback
  have F_lcaps := c_lcaps (P := l.prog) (w := w) (base := base) (df_mk X G a19 l19 c19 k19) T F_draw
  have F_btw := c_btw (P := l.prog) (w := w) (base := base) (df_mk X G a20 l20 c20 k20) T (PySem.W.mg_none_of X G z_bool)
  have F_liscaps := c_liscaps (P := l.prog) (w := w) (base := base) (df_mk X G a21 l21 c21 k21) T F_btw
  have F_bent := c_bent (P := l.prog) (w := w) (base := base) (df_mk X G a22 l22 c22 k22) T F_draw
  exact c_law (fun_mk l23 c23 k23) T F_feed F_draw F_surf F_lholes F_lcaps F_caps F_capped F_rings F_liscaps F_bent
theorem walk {l : PySem.W.OpenLaw} {q : Program} {loose : List Str} {XP : (Str → Option Value) → Heap → Prop} {YP : World → Heap → Prop} {d : DefRec} {K : Params → PySem.W.Frag} (hn : l.most = some 63) (hdf : d.params.defaults = [])
    (hY : ∀ (w : World) (h : Heap), YP w h → (K w.params).In h)
    (F : ∀ (w : World) (mg : Str → Option Value) (fa : Addr) (h : Heap), (K w.params).In h → h.Ns mainGlobals mg → mg d.name = some (.ref fa) →
      ∃ fd : FuncData, (∀ (s : Shared) (u : Value), BindsTo s fd ⟨[u], []⟩ [("_law_script", u)]) ∧ ∀ base : Heap, (K w.params).In base → base.Ns mainGlobals mg → FnOk l.prog w (K w.params) mg base CX0 6 fa fd ["_law_script"] (spLaw (K w.params))) :
    PySem.W.WalkO q loose XP YP l.row.toRowW d [] (fun f vs => PySem.call f vs) :=
  L2.walk_of (n := 63) (k := 6) (x := "_law_script") (CX := fun _ => CX0) (sp := fun w => spLaw (K w.params)) hn (by decide) hdf ⟨rfl, by decide, by decide, rfl⟩ hY F (fun _ _ a ns hl _ hS => ⟨a, ns, rfl, hS, hl, fun _ => rfl⟩) fun _ _ _ _ _ z => z
end Kx
open PySem PySem.W PyProof.Rows
set_option maxRecDepth 100000 in
set_option maxHeartbeats 0 in
theorem PySem.Challenge.cw_ringwords_k76_caps_holds : PySem.Challenge.rw_ringwords_k76_caps.Holds := by
  w_on; o_law; k_head; (case hw => w_witness2)
  k_fill
  refine Kx.walk (l := PySem.Challenge.rw_ringwords_k76_caps) rfl rfl (fun w h Y => PySem.W.kIn_of Y) ?F
  case F =>
    intro w mg fa h KX G hmg
    refine' Kx.all_mk KX G hmg ?a0 ?l0 ?c0 ?k0 ?a1 ?l1 ?c1 ?k1 ?a2 ?l2 ?c2 ?k2 ?a3 ?l3 ?c3 ?k3 ?a4 ?l4 ?c4 ?k4 ?a5 ?l5 ?c5 ?k5 ?a6 ?l6 ?c6 ?k6 ?a7 ?l7 ?c7 ?k7 ?a8 ?l8 ?c8 ?k8 ?a9 ?l9 ?c9 ?k9 ?a10 ?l10 ?c10 ?k10 ?a11 ?l11 ?c11 ?k11 ?a12 ?l12 ?c12 ?k12 ?a13 ?l13 ?c13 ?k13 ?a14 ?l14 ?c14 ?k14 ?a15 ?l15 ?c15 ?k15 ?a16 ?l16 ?c16 ?k16 ?a17 ?l17 ?c17 ?k17 ?a18 ?l18 ?c18 ?k18 ?a19 ?l19 ?c19 ?k19 ?a20 ?l20 ?c20 ?k20 ?a21 ?l21 ?c21 ?k21 ?a22 ?l22 ?c22 ?k22 ?a23 ?l23 ?c23 ?k23 ?z_len ?z_repr ?z_abs ?z_max ?z_int ?z_list ?z_range ?z_reversed ?z_min ?z_sorted ?z_tuple ?z_isinstance ?z_all ?z_str ?z_zip ?aBk ?lB ?kB ?aS ?kN ?lo ?aM ?aR ?aL ?aC ?aT ?z_bool ?gl0 ?gl1 ?gl2 ?gl3 ?gl4 ?gl5 ?gl6 ?gl7 ?gl8 ?gl9 ?gl10 ?gl11
    (case a0 => k_is)
    (case l0 => k_is)
    (case c0 => k_is)
    (case k0 => k_is)
    (case a1 => k_is)
    (case l1 => k_is)
    (case c1 => k_is)
    (case k1 => k_is)
    (case a2 => k_is)
    (case l2 => k_is)
    (case c2 => k_is)
    (case k2 => k_is)
    (case a3 => k_is)
    (case l3 => k_is)
    (case c3 => k_is)
    (case k3 => k_is)
    (case a4 => k_is)
    (case l4 => k_is)
    (case c4 => k_is)
    (case k4 => k_is)
    (case a5 => k_is)
    (case l5 => k_is)
    (case c5 => k_is)
    (case k5 => k_is)
    (case a6 => k_is)
    (case l6 => k_is)
    (case c6 => k_is)
    (case k6 => k_is)
    (case a7 => k_is)
    (case l7 => k_is)
    (case c7 => k_is)
    (case k7 => k_is)
    (case a8 => k_is)
    (case l8 => k_is)
    (case c8 => k_is)
    (case k8 => k_is)
    (case a9 => k_is)
    (case l9 => k_is)
    (case c9 => k_is)
    (case k9 => k_is)
    (case a10 => k_is)
    (case l10 => k_is)
    (case c10 => k_is)
    (case k10 => k_is)
    (case a11 => k_is)
    (case l11 => k_is)
    (case c11 => k_is)
    (case k11 => k_is)
    (case a12 => k_is)
    (case l12 => k_is)
    (case c12 => k_is)
    (case k12 => k_is)
    (case a13 => k_is)
    (case l13 => k_is)
    (case c13 => k_is)
    (case k13 => k_is)
    (case a14 => k_is)
    (case l14 => k_is)
    (case c14 => k_is)
    (case k14 => k_is)
    (case a15 => k_is)
    (case l15 => k_is)
    (case c15 => k_is)
    (case k15 => k_is)
    (case a16 => k_is)
    (case l16 => k_is)
    (case c16 => k_is)
    (case k16 => k_is)
    (case a17 => k_is)
    (case l17 => k_is)
    (case c17 => k_is)
    (case k17 => k_is)
    (case a18 => k_is)
    (case l18 => k_is)
    (case c18 => k_is)
    (case k18 => k_is)
    (case a19 => k_is)
    (case l19 => k_is)
    (case c19 => k_is)
    (case k19 => k_is)
    (case a20 => k_is)
    (case l20 => k_is)
    (case c20 => k_is)
    (case k20 => k_is)
    (case a21 => k_is)
    (case l21 => k_is)
    (case c21 => k_is)
    (case k21 => k_is)
    (case a22 => k_is)
    (case l22 => k_is)
    (case c22 => k_is)
    (case k22 => k_is)
    (case a23 => k_is)
    (case l23 => k_is)
    (case c23 => k_is)
    (case k23 => k_is)
    (case z_len => k_is)
    (case z_repr => k_is)
    (case z_abs => k_is)
    (case z_max => k_is)
    (case z_int => k_is)
    (case z_list => k_is)
    (case z_range => k_is)
    (case z_reversed => k_is)
    (case z_min => k_is)
    (case z_sorted => k_is)
    (case z_tuple => k_is)
    (case z_isinstance => k_is)
    (case z_all => k_is)
    (case z_str => k_is)
    (case z_zip => k_is)
    (case aBk => k_is)
    (case lB => k_is)
    (case kB => exact ⟨⟨_, _, rfl, rfl⟩, ⟨_, _, rfl, rfl⟩, ⟨_, _, rfl, rfl⟩, ⟨_, _, rfl, rfl⟩, ⟨_, _, rfl, rfl⟩, ⟨_, _, rfl, rfl⟩, ⟨_, _, rfl, rfl⟩, ⟨_, _, rfl, rfl⟩, ⟨_, _, rfl, rfl⟩, ⟨_, _, rfl, rfl⟩, ⟨_, _, rfl, rfl⟩, ⟨_, _, rfl, rfl⟩, trivial⟩)
    (case aS => k_is)
    (case kN => rfl)
    (case lo => rfl)
    (case aM => k_is)
    (case aR => k_is)
    (case aL => k_is)
    (case aC => k_is)
    (case aT => k_is)
    (case z_bool => k_is)
    (case gl0 => k_is)
    (case gl1 => k_is)
    (case gl2 => k_is)
    (case gl3 => k_is)
    (case gl4 => k_is)
    (case gl5 => k_is)
    (case gl6 => k_is)
    (case gl7 => k_is)
    (case gl8 => k_is)
    (case gl9 => k_is)
    (case gl10 => k_is)
    (case gl11 => k_is)
