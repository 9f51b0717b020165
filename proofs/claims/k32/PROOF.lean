import PyProof.Rows.All
import Wide.All
import OpenK.AllK
import Wide.FinOn
import Lean
import PyProof.EqAt
import PyProof.EqKinds
import PyProof.TupleCall
import KE.KRevIter
import PyProof.FString5
import PyProof.NeData
import PyProof.TupleOfStr
import PyProof.IsRules
import PySem.Challenge.RW_ringwords_k32_whole_handles_by_holes
set_option Elab.async false
set_option linter.all false
set_option maxRecDepth 100000
/-! THE HAND LAYER, for ints, bools, texts, own classes, LISTS and tuples (index, slices, in, append, pop ..), calls, loops. Paste it whole ahead of your own text; what your proof does not reach may be deleted. -/
namespace L2
open PySem PySem.Spec PyProof.Rows

/-- a key: an int or a str -/
abbrev Key := Sum Int Str
def keyIs : Key → Value → Bool
  | .inl k, v => Value.isInt k v
  | .inr x, v => Value.isStrOf x v
def keyH (w : World) : Key → Int
  | .inl k => hashInt k
  | .inr x => hashStr w x
theorem keyIs_shape : ∀ {k : Key} {v : Value}, keyIs k v = true → (∃ i t, k = Sum.inl i ∧ v = Value.int i t) ∨ (∃ x t, k = Sum.inr x ∧ v = Value.str x t)
  | .inl i, v, h => by
    obtain ⟨t, e⟩ := Value.isInt_shape (k := i) (v := v) h
    exact .inl ⟨i, t, rfl, e⟩
  | .inr x, v, h => by
    obtain ⟨t, e⟩ := Value.isStrOf_shape (x := x) (v := v) h
    exact .inr ⟨x, t, rfl, e⟩
theorem keyIs_int (i : Int) (t : Tok) : keyIs (.inl i) (.int i t) = true := by simp [keyIs, Value.isInt]
theorem keyIs_str (x : Str) (t : Tok) : keyIs (.inr x) (.str x t) = true := by simp [keyIs, Value.isStrOf]
theorem key_ll (a b : Int) : decide ((Sum.inl a : Key) = Sum.inl b) = (a == b) := by
  by_cases e : a = b
  · subst e; simp
  · have h : ¬ (Sum.inl a : Key) = Sum.inl b := fun q => e (Sum.inl.inj q)
    rw [decide_eq_false h]
    exact (beq_eq_false_iff_ne.mpr e).symm
theorem key_rr (a b : Str) : decide ((Sum.inr a : Key) = Sum.inr b) = decide (a = b) := by
  by_cases e : a = b
  · subst e; simp
  · have h : ¬ (Sum.inr a : Key) = Sum.inr b := fun q => e (Sum.inr.inj q)
    rw [decide_eq_false h, decide_eq_false e]
theorem key_lr (a : Int) (b : Str) : decide ((Sum.inl a : Key) = Sum.inr b) = false := decide_eq_false (fun q => nomatch q)
theorem key_rl (a : Str) (b : Int) : decide ((Sum.inr a : Key) = Sum.inl b) = false := decide_eq_false (fun q => nomatch q)

def mixKind (prog : Program) (w : World) : PySem.KeyKind prog w Key where
  is := keyIs
  hash := keyH w
  inj := fun v a b ha hb => by
    rcases keyIs_shape ha with ⟨i, t, rfl, rfl⟩ | ⟨x, t, rfl, rfl⟩
    · rcases keyIs_shape hb with ⟨j, u, rfl, e⟩ | ⟨y, u, rfl, e⟩
      · injection e with e1 _; rw [e1]
      · exact nomatch e
    · rcases keyIs_shape hb with ⟨j, u, rfl, e⟩ | ⟨y, u, rfl, e⟩
      · exact nomatch e
      · injection e with e1 _; rw [e1]
  byValue := fun k v h => by
    rcases keyIs_shape h with ⟨i, t, rfl, rfl⟩ | ⟨x, t, rfl, rfl⟩ <;> rfl
  pyHash := fun hv h => by
    rcases keyIs_shape hv with ⟨i, t, rfl, rfl⟩ | ⟨x, t, rfl, rfl⟩
    · exact wpAny_pyHash_int h
    · exact wpAny_pyHash_str h
  eqBool := fun hu hv h => by
    rcases keyIs_shape hu with ⟨i, t, rfl, rfl⟩ | ⟨x, t, rfl, rfl⟩
    · rcases keyIs_shape hv with ⟨j, u, rfl, rfl⟩ | ⟨y, u, rfl, rfl⟩
      · rw [key_ll] at h; exact wpAny_eqBool_int h
      · rw [key_lr] at h; exact SeqAt.EqAt.int_str i t y u _ _ _ _ h
    · rcases keyIs_shape hv with ⟨j, u, rfl, rfl⟩ | ⟨y, u, rfl, rfl⟩
      · rw [key_rl] at h; exact SeqAt.EqAt.str_int x t j u _ _ _ _ h
      · rw [key_rr] at h; exact wpAny_eqBool_str h
  «strs» := fun k x t v h => by
    rcases keyIs_shape h with ⟨i, u, rfl, e⟩ | ⟨y, u, rfl, e⟩
    · exact nomatch e
    · injection e with e1 _
      subst e1
      cases v <;> rfl

theorem mixKind_int (prog : Program) (w : World) (i : Int) (t : Tok) : (mixKind prog w).is (.inl i) (.int i t) = true := keyIs_int i t
theorem mixKind_str (prog : Program) (w : World) (x : Str) (t : Tok) : (mixKind prog w).is (.inr x) (.str x t) = true := keyIs_str x t
end L2

namespace L2
open PySem PySem.Spec PyProof.Rows

/-- a value, without the heap -/
inductive V where
  | non | bl (b : Bool) | int (i : Int) | str (x : Str) | byt (b : Array UInt8) | flt (b : UInt64) | ref (a : Addr) | ty (n : String)
  deriving DecidableEq

def RelV : V → Value → Prop
  | .non, u => u = Value.none
  | .bl b, u => u = Value.bool b
  | .int i, u => ∃ t, u = Value.int i t
  | .str x, u => ∃ t, u = Value.str x t
  | .byt b, u => ∃ t, u = Value.bytes b t
  | .flt b, u => ∃ t, u = Value.float b t
  | .ref a, u => u = Value.ref a
  | .ty n, u => u = Value.type n

abbrev Vals : List V → List Value → Prop := Paired RelV
theorem Vals.length {xs : List V} {us : List Value} (r : Vals xs us) : xs.length = us.length := Paired.length r
theorem Vals.get : ∀ {xs : List V} {us : List Value} {i : Nat} {x : V}, Vals xs us → xs[i]? = some x → ∃ u, us[i]? = some u ∧ RelV x u
  | _, _, _, _, .nil, e => by simp at e
  | _, _, 0, _, .cons r _, e => by simp at e; subst e; exact ⟨_, rfl, r⟩
  | _, _, i + 1, x, .cons _ t, e => by
    obtain ⟨u, h1, h2⟩ := Vals.get (i := i) (x := x) t (by simpa using e)
    exact ⟨u, by simpa using h1, h2⟩
theorem Vals.set {x : V} {u : Value} (r : RelV x u) : ∀ {xs : List V} {us : List Value} (i : Nat), Vals xs us → Vals (xs.set i x) (us.set i u)
  | _, _, _, .nil => .nil
  | _, _, 0, .cons _ t => .cons r t
  | _, _, i + 1, .cons q t => .cons q (Vals.set r i t)
theorem Vals.append : ∀ {xs ys : List V} {us ws : List Value}, Vals xs us → Vals ys ws → Vals (xs ++ ys) (us ++ ws)
  | _, _, _, _, .nil, s => s
  | _, _, _, _, .cons r t, s => .cons r (Vals.append t s)
theorem Vals.take : ∀ {xs : List V} {us : List Value} (n : Nat), Vals xs us → Vals (xs.take n) (us.take n)
  | _, _, 0, _ => .nil
  | _, _, _ + 1, .nil => .nil
  | _, _, n + 1, .cons r t => .cons r (Vals.take n t)
theorem Vals.drop : ∀ {xs : List V} {us : List Value} (n : Nat), Vals xs us → Vals (xs.drop n) (us.drop n)
  | _, _, 0, r => r
  | _, _, _ + 1, .nil => .nil
  | _, _, n + 1, .cons _ t => Vals.drop n t

def RelO : Option V → Option Value → Prop
  | some v, some u => RelV v u
  | none, none => True
  | _, _ => False
def KV {κ : Type} : List (κ × V) → List (κ × Value) → Prop := Paired fun (p : κ × V) (q : κ × Value) => p.1 = q.1 ∧ RelV p.2 q.2

/-- a key of a dict (00_mix): an int or a text -/
def kV : Key → V
  | .inl i => .int i
  | .inr x => .str x

/-- what stands at a tracked address -/
inductive HO where
  /-- a list -/
  | lst (xs : List V)
  /-- a tuple (never changes) -/
  | tup (xs : List V)
  /-- a dict whose keys are ints and texts; one whose keys are tuples of ints and texts (the empty one is both) -/
  | dK (kvs : List (Key × V)) | dT (kvs : List (List Key × V))
  /-- a set of ints: its members, its size -/
  | set (S : Int → Bool) (n : Nat)
  /-- an instance of the class at C, its dict at dx, its attributes -/
  | ins (C dx : Addr) (fs : List (Str × V))
  /-- the dict of the instance at x -/
  | own (x : Addr)
  /-- the dict of an exception -/
  | xd (fs : List (Str × V))
  /-- a bound method, f of x -/
  | met (f x : Addr)
  /-- a range object lo, lo + 1, .. below hi -/
  | rng (lo hi : Int)
  /-- a thing that is known to the object (the script; a dict while a loop walks it): read, never written while it is so -/
  | frz (o : Obj) (u : HO)
  /-- a code object's table -/
  | tbl (ps : Array Value)
  /-- any other thing, by what is true of its one object (a def of one's own: SetO a S n := HO.ext fun h => ..) -/
  | ext (φ : Heap → Prop)

abbrev Hp := Addr → Option HO
def upd (H : Hp) (a : Addr) (o : HO) : Hp := fun b => if b = a then some o else H b
theorem upd_same {H : Hp} {a : Addr} {o : HO} : upd H a o a = some o := by unfold upd; rw [if_pos rfl]
theorem upd_ne {H : Hp} {a b : Addr} {o : HO} (h : b ≠ a) : upd H a o b = H b := by unfold upd; rw [if_neg h]
theorem upd_upd {H : Hp} {a : Addr} {o u : HO} : upd (upd H a o) a u = upd H a u := by
  funext b; unfold upd; split <;> rfl
/-- two objects of different content stand apart -/
theorem ne_of {H : Hp} {a b : Addr} {o u : HO} (h : H a = some o) (h' : H b = some u) (d : o ≠ u) : a ≠ b := by
  intro e; subst e; rw [h] at h'; exact d (Option.some.inj h')
theorem ne_of_none {H : Hp} {a b : Addr} {o : HO} (h : H a = some o) (h' : H b = none) : a ≠ b := by
  intro e; subst e; rw [h] at h'; cases h'

section
variable (P : Program) (w : World)
def ObjOk (H : Hp) (h : Heap) (a : Addr) : HO → Prop
  | .lst xs => xs.length ≤ sizeLine ∧ ∃ (its : List Value) (n : Nat), Vals xs its ∧ h.get? a = some { cls := .type "list", data := .seq its.toArray n }
  | .tup xs => xs.length ≤ sizeLine ∧ ∃ its : List Value, Vals xs its ∧ IsTup h a its.toArray
  | .dK kvs => kvs.length ≤ sizeLine ∧ (a == sysModules) = false ∧ ∃ vs, KV kvs vs ∧ h.DictOf (mixKind P w) a vs
  | .dT kvs => kvs.length ≤ sizeLine ∧ (a == sysModules) = false ∧ ∃ xs : List (List Key × Addr × Value),
      Paired (fun (p : List Key × V) (q : List Key × Addr × Value) => p.1 = q.1 ∧ H q.2.1 = some (.tup (p.1.map kV)) ∧ RelV p.2 q.2.2) kvs xs ∧
      ∃ o es ep, h.get? a = some o ∧ o.ExactDict ∧ o.data = .dict es ep ∧ es.toList = xs.map (entryOfKey (tupleKind (mixKind P w))) ∧ (xs.map (·.1)).Nodup
  | .set S n => h.SetOf (intKind P w) a S n
  | .ins C dx fs => H dx = some (.own a) ∧ fs.length ≤ 1000 ∧ dx ≠ a ∧ h.get? a = some (PySem.W.instObj C dx) ∧
      ∃ mA, h.Ns1 dx mA ∧ (∀ f, RelO (fs.lookup f) (mA f)) ∧ PySem.Within mA (fs.map (·.1))
  | .own _ => ∃ o, h.get? a = some o
  | .xd fs => ∃ mA, h.Ns1 a mA ∧ ∀ f, RelO (fs.lookup f) (mA f)
  | .rng lo hi => ∃ t u v, h.get? a = some { cls := .type "range", data := .fields #[.int lo t, .int hi u, .int 1 v] }
  | .frz o u => h.get? a = some o ∧ ObjOk H h a u
  | .tbl ps => h.get? a = some { cls := .none, data := .fields ps }
  | .met f x => h.get? a = some (PySem.W.methodObj (.ref f) (.ref x))
  | .ext φ => φ h ∧ (∃ o, h.get? a = some o) ∧ ∀ h1 h2 : Heap, φ h1 → (∀ o, h1.get? a = some o → h2.get? a = some o) → φ h2
/-- the abstract heap is held -/
def HOk (H : Hp) (h : Heap) : Prop := ∀ a o, H a = some o → ObjOk P w H h a o
end

section
variable {P : Program} {w : World} {H H' : Hp} {h h' : Heap} {a : Addr} {o : HO}
theorem ObjOk.lt (x : ObjOk P w H h a o) : a < h.objs.size := by
  cases o with
  | lst xs => obtain ⟨_, _, _, _, e⟩ := x; exact Heap.lt_size e
  | tup xs => obtain ⟨_, _, _, p⟩ := x; exact p.lt
  | dK kvs => obtain ⟨_, _, _, _, o, _, _, e, _⟩ := x; exact Heap.lt_size e
  | dT kvs => obtain ⟨_, _, _, _, o, _, _, e, _⟩ := x; exact Heap.lt_size e
  | set S n => obtain ⟨o, _, _, _, e, _⟩ := x; exact Heap.lt_size e
  | ins C dx fs => obtain ⟨_, _, _, e, _⟩ := x; exact Heap.lt_size e
  | own y => obtain ⟨_, e⟩ := x; exact Heap.lt_size e
  | xd fs => obtain ⟨_, ⟨_, _, _, e, _⟩, _⟩ := x; exact Heap.lt_size e
  | rng lo hi => obtain ⟨_, _, _, e⟩ := x; exact Heap.lt_size e
  | frz ob u => obtain ⟨e, _⟩ := x; exact Heap.lt_size e
  | tbl ps => exact Heap.lt_size (show h.get? a = some _ from x)
  | met f y => exact Heap.lt_size (show h.get? a = some _ from x)
  | ext φ => obtain ⟨_, ⟨_, e⟩, _⟩ := x; exact Heap.lt_size e
theorem Paired.mapP {α β : Type} {F G : α → β → Prop} : ∀ {l₁ : List α} {l₂ : List β}, Paired F l₁ l₂ → (∀ a b, F a b → G a b) → Paired G l₁ l₂
  | _, _, .nil, _ => .nil
  | _, _, .cons r t, f => .cons (f _ _ r) (Paired.mapP t f)
/-- what an object's description leans on: its own object, its own dict, the tuples -/
theorem ObjOk.stay (x : ObjOk P w H h a o) (k : ∀ b u, (b = a ∨ H b = some (.own a)) → h.get? b = some u → h'.get? b = some u)
    (ho : ∀ b, H b = some (.own a) → H' b = some (.own a)) (ht : ∀ b xs, H b = some (.tup xs) → H' b = some (.tup xs)) : ObjOk P w H' h' a o := by
  induction o with
  | lst xs => obtain ⟨z, its, n, r, e⟩ := x; exact ⟨z, its, n, r, k _ _ (.inl rfl) e⟩
  | tup xs => obtain ⟨z, its, r, ob, e, c⟩ := x; exact ⟨z, its, r, ob, k _ _ (.inl rfl) e, c⟩
  | dK kvs => obtain ⟨z, y, vs, r, ob, es, ep, e, c⟩ := x; exact ⟨z, y, vs, r, ob, es, ep, k _ _ (.inl rfl) e, c⟩
  | dT kvs =>
    obtain ⟨z, y, xs, r, ob, es, ep, e, c⟩ := x
    exact ⟨z, y, xs, Paired.mapP r fun p q z => ⟨z.1, ht _ _ z.2.1, z.2.2⟩, ob, es, ep, k _ _ (.inl rfl) e, c⟩
  | set S n => obtain ⟨ob, es, ep, t, e, c⟩ := x; exact ⟨ob, es, ep, t, k _ _ (.inl rfl) e, c⟩
  | ins C dx fs =>
    obtain ⟨d, z, ne, e, mA, ⟨od, es, ep, e2, c⟩, r⟩ := x
    exact ⟨ho _ d, z, ne, k _ _ (.inl rfl) e, mA, ⟨od, es, ep, k _ _ (.inr d) e2, c⟩, r⟩
  | own y => obtain ⟨ob, e⟩ := x; exact ⟨ob, k _ _ (.inl rfl) e⟩
  | xd fs => obtain ⟨mA, ⟨od, es, ep, e, c⟩, r⟩ := x; exact ⟨mA, ⟨od, es, ep, k _ _ (.inl rfl) e, c⟩, r⟩
  | rng lo hi => obtain ⟨t, u, v, e⟩ := x; exact ⟨t, u, v, k _ _ (.inl rfl) e⟩
  | frz ob u ih => obtain ⟨e, q⟩ := x; exact ⟨k _ _ (.inl rfl) e, ih q⟩
  | tbl ps =>
    have e : h.get? a = some { cls := .none, data := .fields ps } := x
    show h'.get? a = some { cls := .none, data := .fields ps }
    exact k a _ (.inl rfl) e
  | met f y =>
    have e : h.get? a = some (PySem.W.methodObj (.ref f) (.ref y)) := x
    show h'.get? a = some (PySem.W.methodObj (.ref f) (.ref y))
    exact k a _ (.inl rfl) e
  | ext φ => obtain ⟨p, ⟨o, e⟩, st⟩ := x; exact ⟨st _ _ p fun o q => k _ _ (.inl rfl) q, ⟨o, k _ _ (.inl rfl) e⟩, st⟩
theorem HOk.lt (x : HOk P w H h) (e : H a = some o) : a < h.objs.size := (x a o e).lt
theorem HOk.fresh (x : HOk P w H h) (e : h.objs.size ≤ a) : H a = none := by
  cases q : H a with
  | none => rfl
  | some u => exact absurd (Nat.lt_of_lt_of_le (x.lt q) e) (Nat.lt_irrefl _)
/-- every object of the heap is kept -/
theorem HOk.kept (x : HOk P w H h) (k : ∀ b u, h.get? b = some u → h'.get? b = some u) : HOk P w H h' := fun a o e =>
  (x a o e).stay (fun b u _ q => k b u q) (fun _ q => q) fun _ _ q => q
/-- a new object is laid and tracked -/
theorem HOk.laid (x : HOk P w H h) (k : ∀ b u, h.get? b = some u → h'.get? b = some u) (hp : h.objs.size ≤ a) (new : ObjOk P w (upd H a o) h' a o) : HOk P w (upd H a o) h' := fun b u e => by
  have hn := x.fresh hp
  by_cases hb : b = a
  · subst hb; rw [upd_same] at e; cases e; exact new
  · rw [upd_ne hb] at e
    exact (x b u e).stay (fun c v _ q => k c v q) (fun c q => by rw [upd_ne (ne_of_none q hn)]; exact q) fun c xs q => by rw [upd_ne (ne_of_none q hn)]; exact q
end

/-- what may be read as u: it is u, or a known u -/
def Rd (H : Hp) (a : Addr) (u : HO) : Prop := H a = some u ∨ ∃ o, H a = some (.frz o u)
theorem Rd.ok {P : Program} {w : World} {H : Hp} {h : Heap} {a : Addr} {u : HO} (r : Rd H a u) (x : HOk P w H h) : ObjOk P w H h a u := by
  rcases r with r | ⟨o, r⟩
  · exact x a u r
  · obtain ⟨_, q⟩ := x a _ r
    exact q
/-- what may be written -/
def Mut : Option HO → Prop
  | some (.lst _) => True
  | some (.dK _) => True
  | some (.dT _) => True
  | some (.set _ _) => True
  | some (.ins _ _ _) => True
  | some (.ext _) => True
  | _ => False
section
variable {P : Program} {w : World} {H : Hp} {h h' : Heap} {x e : Addr} {o' : HO}
/-- the object at e is changed: x itself, or the dict of the instance x -/
theorem HOk.write (ok : HOk P w H h) (mu : Mut (H x)) (he : e = x ∨ H e = some (.own x)) (k : ∀ b u, b ≠ e → h.get? b = some u → h'.get? b = some u) (heo : ∃ u, h'.get? e = some u)
    (new : ObjOk P w (upd H x o') h' x o') : HOk P w (upd H x o') h' := fun b u q => by
  have nown : ∀ c y, H c = some (.own y) → c ≠ x := fun c y r z => by subst z; rw [r] at mu; exact mu
  have ntup : ∀ c xs, H c = some (.tup xs) → c ≠ x := fun c xs r z => by subst z; rw [r] at mu; exact mu
  by_cases hb : b = x
  · subst hb; rw [upd_same] at q; cases q; exact new
  · rw [upd_ne hb] at q
    by_cases hbe : b = e
    · have q' : H b = some (.own x) := by
        rcases he with z | z
        · exact absurd (hbe.trans z) hb
        · rw [hbe]; exact z
      rw [q] at q'; cases q'
      obtain ⟨v, hv⟩ := heo
      exact ⟨v, by rw [hbe]; exact hv⟩
    · refine (ok b u q).stay (fun c v hc r => k c v ?_ r) (fun c r => by rw [upd_ne (nown c b r)]; exact r) fun c xs r => by rw [upd_ne (ntup c xs r)]; exact r
      rcases hc with rfl | hc
      · exact hbe
      · rintro rfl
        rcases he with z | z
        · exact nown c b hc z
        · rw [hc] at z; cases z; exact hb rfl
end

/-! ### kept unless tracked; of the frames at fs (the callers') the slots may change (an exception that passes writes there); of the records at ex (iterators) nothing is said -/
structure Un (fs ex : List Addr) (H H' : Hp) (h h' : Heap) : Prop where
  keep : ∀ b o, h.get? b = some o → H b = none → b ∉ fs → b ∉ ex → h'.get? b = some o
  slot : ∀ b o, h.get? b = some o → H b = none → b ∈ fs → b ∉ ex → ∃ sl, h'.get? b = some { o with slots := sl }
  free : ∀ b o, h.get? b = some o → H b = none → b ∉ ex → H' b = none
  there : ∀ b o, h.get? b = some o → b ∉ ex → ∃ o', h'.get? b = some o'
  tups : ∀ b xs, H b = some (.tup xs) → H' b = some (.tup xs)
  frzs : ∀ b o u, H b = some (.frz o u) → H' b = some (.frz o u)
  tbls : ∀ b ps, H b = some (.tbl ps) → ∃ more, H' b = some (.tbl (ps ++ more))
section
variable {fs fs' ex ex' : List Addr} {H H1 H2 : Hp} {h h1 h2 h' : Heap} {a x e : Addr} {o : HO}
theorem Un.any (u : Un fs ex H H1 h h1) {b : Addr} {ob : Obj} (q : h.get? b = some ob) (n : H b = none) (hx : b ∉ ex) : ∃ sl, h1.get? b = some { ob with slots := sl } := by
  by_cases hb : b ∈ fs
  · exact u.slot b ob q n hb hx
  · exact ⟨ob.slots, u.keep b ob q n hb hx⟩
theorem Un.kept (k : ∀ b u, h.get? b = some u → h'.get? b = some u) : Un fs ex H H h h' :=
  ⟨fun b ob q _ _ _ => k b ob q, fun b ob q _ _ _ => ⟨ob.slots, k b ob q⟩, fun _ _ _ n _ => n, fun b ob q _ => ⟨ob, k b ob q⟩, fun _ _ q => q, fun _ _ _ q => q, fun _ ps q => ⟨#[], by rw [q]; simp⟩⟩
theorem Un.refl : Un fs ex H H h h := Un.kept fun _ _ q => q
theorem Un.laid (k : ∀ b u, h.get? b = some u → h'.get? b = some u) (hp : h.objs.size ≤ a) (hn : H a = none) : Un fs ex H (upd H a o) h h' where
  keep := fun b u q _ _ _ => k b u q
  slot := fun b u q _ _ _ => ⟨u.slots, k b u q⟩
  free := fun b u q n _ => by rw [upd_ne (Nat.ne_of_lt (Nat.lt_of_lt_of_le (Heap.lt_size q) hp))]; exact n
  there := fun b u q _ => ⟨u, k b u q⟩
  tups := fun b xs q => by rw [upd_ne (ne_of_none q hn)]; exact q
  frzs := fun b u xs q => by rw [upd_ne (ne_of_none q hn)]; exact q
  tbls := fun b ps q => ⟨#[], by rw [upd_ne (ne_of_none q hn), q]; simp⟩
theorem Un.write (mu : Mut (H x)) (he : e = x ∨ H e = some (.own x)) (k : ∀ b u, b ≠ e → h.get? b = some u → h'.get? b = some u) (heo : ∃ u, h'.get? e = some u) : Un fs ex H (upd H x o) h h' := by
  have hx : ∀ b, H b = none → b ≠ x := fun b n z => by subst z; rw [n] at mu; exact mu
  have hb : ∀ b, H b = none → b ≠ e := fun b n z => by
    subst z
    rcases he with r | r
    · exact hx b n r
    · rw [n] at r; cases r
  have hm : ∀ b u, H b = some u → ¬ Mut (some u) → b ≠ x := fun b u q nm z => by subst z; rw [q] at mu; exact nm mu
  refine ⟨fun b u q n _ _ => k b u (hb b n) q, fun b u q n _ _ => ⟨u.slots, k b u (hb b n) q⟩, fun b u q n _ => by rw [upd_ne (hx b n)]; exact n, fun b u q _ => ?_,
    fun b xs q => by rw [upd_ne (hm b _ q fun z => z)]; exact q, fun b u xs q => by rw [upd_ne (hm b _ q fun z => z)]; exact q, fun b ps q => ⟨#[], by rw [upd_ne (hm b _ q fun z => z), q]; simp⟩⟩
  by_cases hbe : b = e
  · subst hbe; exact heo
  · exact ⟨u, k b u hbe q⟩
end

/-! ### the heap without what is tracked -/
def trk (h : Heap) (H : Hp) : List Addr := (List.range h.objs.size).filter fun a => (H a).isSome
def hidT (h : Heap) (H : Hp) : Heap := PySem.W.hideAll h (trk h H)
theorem hidT_size (h : Heap) (H : Hp) : (hidT h H).objs.size = h.objs.size := PySem.W.hideAll_size _ _
theorem hidT_get {h : Heap} {H : Hp} {b : Addr} {o : Obj} (e : h.get? b = some o) (n : H b = none) : (hidT h H).get? b = some o :=
  PySem.W.hideAll_get _ e fun hm => by
    have q : (H b).isSome = true := (List.mem_filter.mp hm).2
    rw [n] at q; simp at q
theorem of_hidT {h : Heap} {H : Hp} {b : Addr} {o : Obj} (e : (hidT h H).get? b = some o) : h.get? b = some o ∧ H b = none := by
  have e' : h.get? b = some o := PySem.W.of_hideAll (trk h H) e
  refine ⟨e', ?_⟩
  cases q : H b with
  | none => rfl
  | some x =>
    have hm : b ∈ trk h H := List.mem_filter.mpr ⟨List.mem_range.mpr (Heap.lt_size e'), by simp [q]⟩
    have z : (hidT h H).get? b = none := PySem.W.hideAll_none (trk h H) hm
    rw [z] at e; cases e

/-! ### OpenK's ledger, filled with every new object but one -/
def allNews (g h : Heap) (L : Addr) : List (Addr × Obj) := (List.range h.objs.size).filterMap fun a => if a = L ∨ (g.get? a).isSome = true then none else (h.get? a).map fun o => (a, o)
def rest (g h : Heap) (L d : Addr) : List (Addr × Obj) := (allNews g h L).filter fun p => decide (p.1 ≠ d)
end L2

namespace L2
open PySem PySem.Spec PyProof.Rows

/-- the module's facts, over the base: the heap at the law's entry without what is tracked there -/
structure Mod (K : PySem.W.Frag) (mg : Str → Option Value) (base : Heap) : Prop where
  kin : K.In base
  glob : base.Ns mainGlobals mg
  blt : ∃ mb, base.Ns builtinsNs mb ∧ ∀ x : Str, x ≠ "__name__" → mb x = bootBuiltins x
  nolimit : base.NoLimit

/-- the context: a def's body (or a comprehension's block) running. base: fixed through the whole law; s₀, H₀: the entry; outer: the frames whose slots others may change (a def's callers); stack: all frames that run;
   ex: iterators that were made ahead of the entry and are walked here (a comprehension's); fn: the names whose cells were made at the entry (a def: all; a comprehension's block: its own); calm: not within an except suite; pn: pins that every state bears; xe: what is wanted of an exception that leaves the code -/
structure Cx where
  prog : Program
  w : World
  K : PySem.W.Frag
  mg : Str → Option Value
  base : Heap
  A : Around
  N : List Str
  s₀ : Shared
  H₀ : Hp
  env : Env
  outer : List Env
  stack : List Env
  ex : List Addr
  fn : Str → Bool
  calm : Bool
  pn : List (Addr × Obj)
  xe : Value → Shared → Prop
/-- the callers' frames -/
def frs (l : List Env) : List Addr := l.filterMap (·.frame)
abbrev Cx.fs (X : Cx) : List Addr := frs X.outer

def Vis (sc : Scope) (x : Str) : Prop := sc.names.lookup x = some .local ∨ sc.names.lookup x = some .cell ∨ sc.names.lookup x = some .free
def Loc (sc : Scope) (x : Str) : Prop := sc.names.lookup x = some .local ∨ sc.names.lookup x = some .cell
def Look (env : Env) (h : Heap) (m : Str → Option Value) (x : Str) (u : Value) : Prop :=
  (env.kindOf x = some .local ∧ m x = some u) ∨ ((env.kindOf x = some .cell ∨ env.kindOf x = some .free) ∧ ∃ c, env.cells.lookup x = some c ∧ h.IsCell c (some u))

structure Cx.Ok (X : Cx) : Prop where
  mod : Mod X.K X.mg X.base
  kind : X.env.scope.kind = .function
  glob : X.env.globals = mainGlobals
  blt : X.env.builtins = builtinsNs
  above : X.s₀.heap.objs.size ≤ X.env.locals
  inj : ∀ x y c, X.env.cells.lookup x = some c → X.env.cells.lookup y = some c → x = y
  has : ∀ x, (X.env.kindOf x = some .cell ∨ X.env.kindOf x = some .free) → ∃ c, X.env.cells.lookup x = some c
  cab : ∀ x c, X.fn x = true → X.env.cells.lookup x = some c → X.s₀.heap.objs.size ≤ c
  hd : X.calm = true → X.A.handled = none
  frames : X.A.frames = some X.stack
  stk : X.stack = X.outer ∨ (X.stack = X.env :: X.outer ∧ X.env.frame = some X.env.locals)
  exf : ∀ b ∈ X.ex, b ≠ X.env.locals ∧ ∀ x c, X.env.cells.lookup x = some c → c ≠ b
  bs : ∀ b o, X.base.get? b = some o → X.s₀.heap.get? b = some o ∧ X.H₀ b = none
  bsz : X.base.objs.size ≤ X.s₀.heap.objs.size
  noex : ∀ b o, X.base.get? b = some o → b ∉ X.ex
  exfs : ∀ b ∈ X.ex, b ∉ X.fs
  funs : X.s₀.heap.FunFrames X.base X.outer
  frf : ∀ b ∈ X.fs, X.H₀ b = none

structure Inv (X : Cx) (pins : List (Addr × Obj)) (σ : List (Option V)) (H : Hp) (s : Shared) : Prop where
  ok : X.Ok
  os : s.os = X.s₀.os
  bare : AllBare s.gens
  base : Un X.fs X.ex X.H₀ H X.s₀.heap s.heap
  loc : ∃ m, s.heap.Ns X.env.locals m ∧ ∀ (i : Nat) (x : Str) (v : V), X.N[i]? = some x → σ[i]? = some (some v) → Vis X.env.scope x → ∃ u, RelV v u ∧ Look X.env s.heap m x u
  cell : ∀ x c, X.env.cells.lookup x = some c → ∃ v, s.heap.IsCell c v
  free : H X.env.locals = none
  freeC : ∀ x c, X.env.cells.lookup x = some c → H c = none
  pin : ∀ p ∈ X.pn ++ pins, s.heap.get? p.1 = some p.2 ∧ H p.1 = none ∧ p.1 ≠ X.env.locals ∧ p.1 ∉ X.fs ∧ ∀ v, p.2.data ≠ .cell v
  hok : HOk X.prog X.w H s.heap
  len : σ.length = X.N.length

section
variable {X : Cx} {pins : List (Addr × Obj)} {σ : List (Option V)} {H H' : Hp} {s : Shared} {h' : Heap}

theorem Cx.Ok.nofr (ok : X.Ok) {b : Addr} {o : Obj} (e : X.base.get? b = some o) : b ∉ X.fs := fun hb => by
  have := (ok.funs.mem hb).1
  rw [e] at this; cases this
theorem Inv.bs (I : Inv X pins σ H s) : ∀ b o, X.base.get? b = some o → s.heap.get? b = some o ∧ H b = none := fun b o e =>
  ⟨I.base.keep b o (I.ok.bs b o e).1 (I.ok.bs b o e).2 (I.ok.nofr e) (I.ok.noex b o e), I.base.free b o (I.ok.bs b o e).1 (I.ok.bs b o e).2 (I.ok.noex b o e)⟩
theorem Inv.bk (I : Inv X pins σ H s) : ∀ b o, X.base.get? b = some o → s.heap.get? b = some o := fun b o e => (I.bs b o e).1
theorem Inv.mod (I : Inv X pins σ H s) : Mod X.K X.mg X.base := I.ok.mod
theorem Inv.kIn (I : Inv X pins σ H s) : X.K.In s.heap := I.ok.mod.kin.keeps I.bk
/-- the frame over the base: for OpenK's rules (K.In X.base is I.mod.kin) -/
theorem Inv.fr (I : Inv X pins σ H s) : ∃ m, Fr X.base X.env.locals s.heap m :=
  let ⟨m, hn, _⟩ := I.loc
  ⟨m, hn, I.bk, Nat.le_trans I.ok.bsz I.ok.above⟩
theorem Inv.lt (I : Inv X pins σ H s) : X.env.locals < s.heap.objs.size := let ⟨_, hn, _⟩ := I.loc; hn.lt
theorem Inv.sz (I : Inv X pins σ H s) : X.s₀.heap.objs.size ≤ s.heap.objs.size := Nat.le_trans I.ok.above (Nat.le_of_lt I.lt)
theorem Inv.nofs (I : Inv X pins σ H s) {a : Addr} (h : s.heap.objs.size ≤ a) : a ∉ X.fs := fun hb => by
  obtain ⟨_, o, ho, _⟩ := I.ok.funs.mem hb
  exact absurd (Nat.lt_of_lt_of_le (Heap.lt_size ho) (Nat.le_trans I.sz h)) (Nat.lt_irrefl _)
theorem Inv.cne (I : Inv X pins σ H s) : ∀ x c, X.env.cells.lookup x = some c → c ≠ X.env.locals := fun x c e z => by
  obtain ⟨v, o, ho, hd⟩ := I.cell x c e
  obtain ⟨m, ⟨o', es, ep, ho', hd', _⟩, _⟩ := I.loc
  rw [z, ho'] at ho; cases ho; rw [hd'] at hd; cases hd
theorem Inv.funs (I : Inv X pins σ H s) : s.heap.FunFrames X.base X.outer := by
  have all : ∀ (l : List Env), (∀ b ∈ frs l, b ∈ X.fs) → X.s₀.heap.FunFrames X.base l → s.heap.FunFrames X.base l := by
    intro l
    induction l with
    | nil => intro _ _; trivial
    | cons env r ih =>
      intro hs hl
      obtain ⟨hk, ⟨L, o, hf, hn, ho, hd⟩, hr⟩ := hl
      have hL : L ∈ X.fs := hs L (by unfold frs; rw [List.filterMap_cons, hf]; exact List.mem_cons_self)
      obtain ⟨sl, e⟩ := I.base.slot L o ho (I.ok.frf L hL) hL fun z => I.ok.exfs L z hL
      exact ⟨hk, ⟨L, _, hf, hn, e, hd⟩, ih (fun b hb => hs b (by unfold frs; rw [List.filterMap_cons, hf]; exact List.mem_cons_of_mem _ hb)) hr⟩
  exact all X.outer (fun _ hb => hb) I.ok.funs

/-- the frames that run, for a call -/
theorem Inv.stack (I : Inv X pins σ H s) : s.heap.FunFrames X.base X.stack := by
  rcases I.ok.stk with e | ⟨e, hf⟩
  · rw [e]; exact I.funs
  · rw [e]
    obtain ⟨m, hn, _⟩ := I.loc
    refine .cons (by rw [I.ok.kind]; decide) hf hn ?_ I.funs
    exact Heap.get?_none_of_le (Nat.le_trans I.ok.bsz I.ok.above)
theorem Inv.stkSub (I : Inv X pins σ H s) : ∀ b ∈ frs X.stack, b ∈ X.env.locals :: X.fs := fun b hb => by
  rcases I.ok.stk with e | ⟨e, hf⟩
  · rw [e] at hb; exact List.mem_cons_of_mem _ hb
  · rw [e] at hb
    unfold frs at hb
    rw [List.filterMap_cons, hf] at hb
    exact hb
theorem Inv.stkFree (I : Inv X pins σ H s) : ∀ b ∈ frs X.stack, H b = none := fun b hb => by
  rcases List.mem_cons.mp (I.stkSub b hb) with e | hb
  · rw [e]; exact I.free
  · obtain ⟨_, o, ho, _⟩ := I.ok.funs.mem hb
    exact I.base.free b o ho (I.ok.frf b hb) fun z => I.ok.exfs b z hb

/-- THE STEP: the untracked objects but the frame and the records at ch are kept (the callers' frames up to slots), the frame's map is kept, the new abstract heap is held -/
theorem Inv.step {g' : Array GenState} {t' : Nat} {d' : Drawn} {ch : List Addr} (I : Inv X pins σ H s)
    (hch : ∀ b ∈ ch, (b ∈ X.ex ∨ X.s₀.heap.objs.size ≤ b) ∧ b ≠ X.env.locals ∧ (∀ x c, X.env.cells.lookup x = some c → c ≠ b) ∧ ∀ p ∈ X.pn ++ pins, p.1 ≠ b)
    (keep : ∀ b o, b ≠ X.env.locals → b ∉ X.fs → b ∉ ch → s.heap.get? b = some o → H b = none → h'.get? b = some o)
    (slot : ∀ b o, b ≠ X.env.locals → b ∈ X.fs → b ∉ ch → s.heap.get? b = some o → H b = none → ∃ sl, h'.get? b = some { o with slots := sl }) (free : ∀ b o, b ∉ ch → s.heap.get? b = some o → H b = none → H' b = none)
    (there : ∀ b o, b ∉ ch → s.heap.get? b = some o → ∃ o', h'.get? b = some o')
    (tups : ∀ b xs, H b = some (.tup xs) → H' b = some (.tup xs)) (frzs : ∀ b o u, H b = some (.frz o u) → H' b = some (.frz o u)) (tbls : ∀ b ps, H b = some (.tbl ps) → ∃ more, H' b = some (.tbl (ps ++ more)))
    (ns : ∀ m, s.heap.Ns X.env.locals m → h'.Ns X.env.locals m) (hok : HOk X.prog X.w H' h') (hg : AllBare g') :
    Inv X pins σ H' { s with heap := h', gens := g', drawn := d', toks := t' } := by
  have neL : ∀ b o, X.s₀.heap.get? b = some o → b ≠ X.env.locals := fun b o e => Nat.ne_of_lt (Nat.lt_of_lt_of_le (Heap.lt_size e) I.ok.above)
  have neC : ∀ b o, X.s₀.heap.get? b = some o → b ∉ X.ex → b ∉ ch := fun b o e hx hb => by
    rcases (hch b hb).1 with z | z
    · exact hx z
    · exact absurd (Nat.lt_of_lt_of_le (Heap.lt_size e) z) (Nat.lt_irrefl _)
  have cellK : ∀ x c, X.env.cells.lookup x = some c → ∀ v, s.heap.IsCell c v → h'.IsCell c v := fun x c e v ⟨o, ho, hd⟩ => by
    have nch : c ∉ ch := fun z => (hch c z).2.2.1 x c e rfl
    by_cases hc : c ∈ X.fs
    · obtain ⟨sl, q⟩ := slot c o (I.cne x c e) hc nch ho (I.freeC x c e)
      exact ⟨_, q, hd⟩
    · exact ⟨o, keep c o (I.cne x c e) hc nch ho (I.freeC x c e), hd⟩
  refine ⟨I.ok, I.os, hg, ⟨fun b o e n hb hx => ?_, fun b o e n hb hx => ?_, fun b o e n hx => ?_, fun b o e hx => ?_, fun b xs e => tups b xs (I.base.tups b xs e), fun b o xs e => frzs b o xs (I.base.frzs b o xs e), fun b ps e => ?_⟩, ?_, fun x c e => ?_, ?_, fun x c e => ?_, fun p hp => ?_, hok, I.len⟩
  · exact keep b o (neL b o e) hb (neC b o e hx) (I.base.keep b o e n hb hx) (I.base.free b o e n hx)
  · obtain ⟨sl, e1⟩ := I.base.slot b o e n hb hx
    obtain ⟨sl', e2⟩ := slot b _ (neL b o e) hb (neC b o e hx) e1 (I.base.free b o e n hx)
    exact ⟨sl', e2⟩
  · obtain ⟨o', e1⟩ := I.base.there b o e hx
    exact free b o' (neC b o e hx) e1 (I.base.free b o e n hx)
  · obtain ⟨o', e1⟩ := I.base.there b o e hx
    exact there b o' (neC b o e hx) e1
  · obtain ⟨m1, e1⟩ := I.base.tbls b ps e
    obtain ⟨m2, e2⟩ := tbls b _ e1
    exact ⟨m1 ++ m2, by rw [e2, Array.append_assoc]⟩
  · obtain ⟨m, hn, hl⟩ := I.loc
    refine ⟨m, ns m hn, fun i x v e1 e2 e3 => ?_⟩
    obtain ⟨u, r, l⟩ := hl i x v e1 e2 e3
    refine ⟨u, r, ?_⟩
    rcases l with l | ⟨k, c, e, z⟩
    · exact .inl l
    · exact .inr ⟨k, c, e, cellK x c e _ z⟩
  · obtain ⟨v, z⟩ := I.cell x c e
    exact ⟨v, cellK x c e v z⟩
  · obtain ⟨m, ⟨o, _, _, ho, _⟩, _⟩ := I.loc
    exact free _ o (fun z => (hch _ z).2.1 rfl) ho I.free
  · obtain ⟨v, o, ho, hd⟩ := I.cell x c e
    exact free c o (fun z => (hch c z).2.2.1 x c e rfl) ho (I.freeC x c e)
  · obtain ⟨e, n, ne, nf, d⟩ := I.pin p hp
    have nch : p.1 ∉ ch := fun z => (hch p.1 z).2.2.2 p hp rfl
    exact ⟨keep p.1 p.2 ne nf nch e n, free p.1 p.2 nch e n, ne, nf, d⟩
/-- .. where the frame's own object is kept too -/
theorem Inv.un {t' : Nat} (I : Inv X pins σ H s) (u : Un X.fs [] H H' s.heap h') (hok : HOk X.prog X.w H' h') : Inv X pins σ H' { s with heap := h', toks := t' } := by
  obtain ⟨m, ⟨o, es, ep, ho, r⟩, _⟩ := id I.loc
  obtain ⟨sl, hL⟩ := u.any ho I.free (by simp)
  exact I.step (g' := s.gens) (d' := s.drawn) (ch := []) (fun _ z => nomatch z) (fun b o _ hb _ e n => u.keep b o e n hb (by simp)) (fun b o _ hb _ e n => u.slot b o e n hb (by simp)) (fun b o _ e n => u.free b o e n (by simp)) (fun b o _ e => u.there b o e (by simp)) u.tups u.frzs u.tbls (fun m' hm => by
    obtain ⟨o', es', ep', ho', r'⟩ := hm
    rw [ho] at ho'; cases ho'
    exact ⟨_, es', ep', hL, r'⟩) hok I.bare
/-- behind a call (or a comprehension's block): the slots of this frame may have changed too, the records at ch may have turned -/
theorem Inv.call {g' : Array GenState} {t' : Nat} {d' : Drawn} {ch : List Addr} (I : Inv X pins σ H s) (u : Un (frs X.stack) ch H H' s.heap h') (hok : HOk X.prog X.w H' h') (hg : AllBare g')
    (hch : ∀ b ∈ ch, (b ∈ X.ex ∨ X.s₀.heap.objs.size ≤ b) ∧ b ≠ X.env.locals ∧ (∀ x c, X.env.cells.lookup x = some c → c ≠ b) ∧ ∀ p ∈ X.pn ++ pins, p.1 ≠ b) :
    Inv X pins σ H' { s with heap := h', gens := g', drawn := d', toks := t' } := by
  obtain ⟨m, ⟨o, es, ep, ho, r⟩, _⟩ := id I.loc
  obtain ⟨sl, hL⟩ := u.any ho I.free fun z => (hch _ z).2.1 rfl
  exact I.step (ch := ch) hch (fun b o hL hb hc e n => u.keep b o e n (fun z => (List.mem_cons.mp (I.stkSub b z)).elim hL hb) hc) (fun b o _ _ hc e n => u.any e n hc) (fun b o hc e n => u.free b o e n hc) (fun b o hc e => u.there b o e hc) u.tups u.frzs u.tbls (fun m' hm => by
    obtain ⟨o', es', ep', ho', r'⟩ := hm
    rw [ho] at ho'; cases ho'
    exact ⟨_, es', ep', hL, r'⟩) hok hg
/-- an untracked record of ours (an iterator) has turned -/
theorem Inv.turned {t' : Nat} {it : Addr} (I : Inv X pins σ H s) (k : ∀ b o, b ≠ it → s.heap.get? b = some o → h'.get? b = some o) (hn : H it = none) (hL : it ≠ X.env.locals)
    (h1 : it ∈ X.ex ∨ X.s₀.heap.objs.size ≤ it) (h2 : ∀ x c, X.env.cells.lookup x = some c → c ≠ it) (h3 : ∀ p ∈ X.pn ++ pins, p.1 ≠ it) : Inv X pins σ H { s with heap := h', toks := t' } := by
  have nit : ∀ b u, H b = some u → b ≠ it := fun b u e z => by rw [z, hn] at e; cases e
  refine I.step (g' := s.gens) (d' := s.drawn) (ch := [it]) (fun b hb => ?_) (fun b o _ _ hc e _ => k b o (fun z => hc (by simp [z])) e) (fun b o _ _ hc e _ => ⟨o.slots, k b o (fun z => hc (by simp [z])) e⟩) (fun _ _ _ _ n => n)
    (fun b o hc e => ⟨o, k b o (fun z => hc (by simp [z])) e⟩) (fun _ _ e => e) (fun _ _ _ e => e) (fun b ps e => ⟨#[], by rw [e]; simp⟩) (fun m hm => ?_) (fun b u e => ?_) I.bare
  · have e : b = it := by simpa using hb
    subst e
    exact ⟨h1, hL, h2, h3⟩
  · obtain ⟨o, es, ep, ho, r⟩ := hm
    exact ⟨o, es, ep, k _ o (Ne.symm hL) ho, r⟩
  · refine (I.hok b u e).stay (fun c v hc q => k c v ?_ q) (fun _ q => q) fun _ _ q => q
    rcases hc with z | z
    · rw [z]; exact nit b u e
    · exact nit c _ z
theorem Inv.tok (I : Inv X pins σ H s) (t : Nat) : Inv X pins σ H { s with toks := t } := I.un (h' := s.heap) (t' := t) Un.refl I.hok
/-- all objects kept -/
theorem Inv.kept {t' : Nat} (I : Inv X pins σ H s) (k : ∀ b u, s.heap.get? b = some u → h'.get? b = some u) : Inv X pins σ H { s with heap := h', toks := t' } := I.un (Un.kept k) (I.hok.kept k)
/-- a new object laid and tracked -/
theorem Inv.laid {a : Addr} {o : HO} {t' : Nat} (I : Inv X pins σ H s) (k : ∀ b u, s.heap.get? b = some u → h'.get? b = some u) (hp : s.heap.objs.size ≤ a) (new : ObjOk X.prog X.w (upd H a o) h' a o) :
    Inv X pins σ (upd H a o) { s with heap := h', toks := t' } := I.un (Un.laid k hp (I.hok.fresh hp)) (I.hok.laid k hp new)
/-- an object written -/
theorem Inv.write {x e : Addr} {o : HO} {t' : Nat} (I : Inv X pins σ H s) (mu : Mut (H x)) (he : e = x ∨ H e = some (.own x)) (k : ∀ b u, b ≠ e → s.heap.get? b = some u → h'.get? b = some u) (heo : ∃ u, h'.get? e = some u)
    (new : ObjOk X.prog X.w (upd H x o) h' x o) : Inv X pins σ (upd H x o) { s with heap := h', toks := t' } := I.un (Un.write mu he k heo) (I.hok.write mu he k heo new)
theorem Inv.pins_of {pins' : List (Addr × Obj)} (I : Inv X pins σ H s) (h : ∀ p ∈ pins', s.heap.get? p.1 = some p.2 ∧ H p.1 = none ∧ p.1 ≠ X.env.locals ∧ p.1 ∉ X.fs ∧ ∀ v, p.2.data ≠ .cell v) : Inv X pins' σ H s :=
  ⟨I.ok, I.os, I.bare, I.base, I.loc, I.cell, I.free, I.freeC, fun p hp => (List.mem_append.mp hp).elim (fun z => I.pin p (List.mem_append_left _ z)) (h p), I.hok, I.len⟩

theorem nodup_ix {N : List Str} (hN : N.Nodup) {i j : Nat} {x : Str} (a : N[i]? = some x) (b : N[j]? = some x) : i = j := by
  obtain ⟨h1, e1⟩ := List.getElem?_eq_some_iff.mp a
  obtain ⟨h2, e2⟩ := List.getElem?_eq_some_iff.mp b
  exact (List.getElem_inj hN).mp (e1.trans e2.symm)

/-- a name is stored; what changed -/
theorem store_ok2 {M : Model} {A : Around} {E : Value → Shared → Prop} {i : Nat} {x : Str} {v : V} {u : Value} {Q : Unit → Shared → Prop} (I : Inv X pins σ H s) (hN : X.N.Nodup) (hi : X.N[i]? = some x) (hx : Loc X.env.scope x) (r : RelV v u)
    (h : ∀ s', Inv X pins (σ.set i (some v)) H s' → (∃ a, Heap.SameBut a s.heap s'.heap ∧ (a = X.env.locals ∨ X.env.cells.lookup x = some a)) → Q () s') (hf : X.fn x = true ∨ X.env.scope.names.lookup x = some .local := by first | exact .inl rfl | exact .inr rfl | assumption) : wpAny M A (storeName X.env x u) Q E s := by
  obtain ⟨m, hn, hl⟩ := id I.loc
  have hcls : (X.env.scope.kind == .class || (X.env.scope.kind == .module && X.env.locals != X.env.globals)) = false := by rw [I.ok.kind]; rfl
  have hiσ : i < σ.length := by rw [I.len]; exact (List.getElem?_eq_some_iff.mp hi).1
  have cne := I.cne
  have tracked : ∀ {a : Addr} {h' : Heap}, (∃ o, s.heap.get? a = some o ∧ H a = none) → Heap.SameBut a s.heap h' → HOk X.prog X.w H h' := fun {a h'} ha hs b ob e => by
    obtain ⟨_, _, hfree⟩ := ha
    refine (I.hok b ob e).stay (fun c w' hc q => (hs.2 c ?_).trans q) (fun _ q => q) fun _ _ q => q
    rintro rfl
    rcases hc with rfl | hc
    · rw [hfree] at e; cases e
    · rw [hfree] at hc; cases hc
  rcases hx with hk | hk
  · refine wpAny_storeName_local hk hn (fun h' hn' hs => ?_) hcls
    obtain ⟨oL, _, _, hoL, _⟩ := id hn
    refine h _ ⟨I.ok, I.os, I.bare, ⟨fun b o e n hb hx => ?_, fun b o e n hb hx => ?_, I.base.free, fun b o e hx => ?_, I.base.tups, I.base.frzs, I.base.tbls⟩, ⟨_, hn', fun j y v' e1 e2 e3 => ?_⟩, fun y c e => ?_, I.free, I.freeC, fun p hp => ?_, tracked ⟨oL, hoL, I.free⟩ hs, by simpa using I.len⟩ ⟨_, hs, .inl rfl⟩
    · exact (hs.2 b (Nat.ne_of_lt (Nat.lt_of_lt_of_le (Heap.lt_size e) I.ok.above))).trans (I.base.keep b o e n hb hx)
    · obtain ⟨sl, e1⟩ := I.base.slot b o e n hb hx
      exact ⟨sl, (hs.2 b (Nat.ne_of_lt (Nat.lt_of_lt_of_le (Heap.lt_size e) I.ok.above))).trans e1⟩
    · obtain ⟨o', e1⟩ := I.base.there b o e hx
      exact ⟨o', (hs.2 b (Nat.ne_of_lt (Nat.lt_of_lt_of_le (Heap.lt_size e) I.ok.above))).trans e1⟩
    · by_cases hj : j = i
      · subst hj
        rw [hi] at e1; cases e1
        rw [List.getElem?_set_self hiσ] at e2
        cases e2
        exact ⟨u, r, .inl ⟨hk, by simp⟩⟩
      · rw [List.getElem?_set_ne (Ne.symm hj)] at e2
        obtain ⟨u', r', q⟩ := hl j y v' e1 e2 e3
        refine ⟨u', r', ?_⟩
        rcases q with ⟨k, e⟩ | ⟨k, c, e, z⟩
        · refine .inl ⟨k, ?_⟩
          have : y ≠ x := fun e => hj (nodup_ix hN e1 (e ▸ hi))
          simp [this, e]
        · exact .inr ⟨k, c, e, z.sameBut hs (cne y c e)⟩
    · obtain ⟨w', z⟩ := I.cell y c e
      exact ⟨w', z.sameBut hs (cne y c e)⟩
    · obtain ⟨e, n, ne, nf, d⟩ := I.pin p hp
      exact ⟨(hs.2 p.1 ne).trans e, n, ne, nf, d⟩
  · have hfn : X.fn x = true := by
      rcases hf with z | z
      · exact z
      · rw [z] at hk; cases hk
    obtain ⟨c, hc⟩ := I.ok.has x (.inl hk)
    obtain ⟨w', z⟩ := I.cell x c hc
    refine wpAny_storeName_cell I.ok.kind hk hc z (fun h' hc' hs => ?_)
    obtain ⟨oc, hoc, hocd⟩ := id z
    refine h { s with heap := h' } ⟨I.ok, I.os, I.bare, ⟨fun b o e n hb hx => ?_, fun b o e n hb hx => ?_, I.base.free, fun b o e hx => ?_, I.base.tups, I.base.frzs, I.base.tbls⟩, ⟨m, hn.sameBut hs (Ne.symm (cne x c hc)), fun j y v' e1 e2 e3 => ?_⟩, fun y c' e => ?_, I.free, I.freeC, fun p hp => ?_, tracked ⟨oc, hoc, I.freeC x c hc⟩ hs, by simpa using I.len⟩ ⟨c, hs, .inr hc⟩
    · exact (hs.2 b (Nat.ne_of_lt (Nat.lt_of_lt_of_le (Heap.lt_size e) (I.ok.cab x c hfn hc)))).trans (I.base.keep b o e n hb hx)
    · obtain ⟨sl, e1⟩ := I.base.slot b o e n hb hx
      exact ⟨sl, (hs.2 b (Nat.ne_of_lt (Nat.lt_of_lt_of_le (Heap.lt_size e) (I.ok.cab x c hfn hc)))).trans e1⟩
    · obtain ⟨o', e1⟩ := I.base.there b o e hx
      exact ⟨o', (hs.2 b (Nat.ne_of_lt (Nat.lt_of_lt_of_le (Heap.lt_size e) (I.ok.cab x c hfn hc)))).trans e1⟩
    · by_cases hj : j = i
      · subst hj
        rw [hi] at e1; cases e1
        rw [List.getElem?_set_self hiσ] at e2
        cases e2
        exact ⟨u, r, .inr ⟨.inl hk, c, hc, hc'⟩⟩
      · rw [List.getElem?_set_ne (Ne.symm hj)] at e2
        obtain ⟨u', r', q⟩ := hl j y v' e1 e2 e3
        refine ⟨u', r', ?_⟩
        rcases q with q | ⟨k, c', e, z'⟩
        · exact .inl q
        · refine .inr ⟨k, c', e, z'.sameBut hs ?_⟩
          rintro rfl
          exact hj (nodup_ix hN e1 (I.ok.inj _ _ _ e hc ▸ hi))
    · by_cases hcc : c' = c
      · subst hcc; exact ⟨_, hc'⟩
      · obtain ⟨w2, z2⟩ := I.cell y c' e
        exact ⟨w2, z2.sameBut hs hcc⟩
    · obtain ⟨e, n, ne, nf, d⟩ := I.pin p hp
      refine ⟨(hs.2 p.1 ?_).trans e, n, ne, nf, d⟩
      intro q
      rw [q, hoc] at e
      have q' : oc = p.2 := Option.some.inj e
      exact d w' (by rw [← q']; exact hocd)
theorem store_ok {M : Model} {A : Around} {E : Value → Shared → Prop} {i : Nat} {x : Str} {v : V} {u : Value} {Q : Unit → Shared → Prop} (I : Inv X pins σ H s) (hN : X.N.Nodup) (hi : X.N[i]? = some x) (hx : Loc X.env.scope x) (r : RelV v u)
    (h : ∀ s', Inv X pins (σ.set i (some v)) H s' → Q () s') (hf : X.fn x = true ∨ X.env.scope.names.lookup x = some .local := by first | exact .inl rfl | exact .inr rfl | assumption) : wpAny M A (storeName X.env x u) Q E s :=
  store_ok2 I hN hi hx r (fun s' I' _ => h s' I') hf
/-- behind a call or a block, the state as it is -/
theorem Inv.call' {s' : Shared} {ch : List Addr} (I : Inv X pins σ H s) (ho : s'.os = s.os) (u : Un (frs X.stack) ch H H' s.heap s'.heap) (hok : HOk X.prog X.w H' s'.heap) (hg : AllBare s'.gens)
    (hch : ∀ b ∈ ch, (b ∈ X.ex ∨ X.s₀.heap.objs.size ≤ b) ∧ b ≠ X.env.locals ∧ (∀ x c, X.env.cells.lookup x = some c → c ≠ b) ∧ ∀ p ∈ X.pn ++ pins, p.1 ≠ b) : Inv X pins σ H' s' := by
  obtain ⟨h', g', d', t', o'⟩ := s'
  have e : o' = s.os := ho
  subst e
  exact I.call (g' := g') (t' := t') (d' := d') u hok hg hch
end

/-! ### the judgements -/
/-- an exception: its class, its own dict's address (where it has one), the abstract heap behind it -/
abbrev XK := Value → Option Addr → Hp → Prop
abbrev St := List (Option V)
abbrev VK := V → Hp → Prop
/-- an expression's reading; a test's; an argument list's -/
abbrev TE := St → Hp → VK → Prop
abbrev TT := St → Hp → (Bool → Hp → Prop) → Prop
abbrev TA := St → Hp → (List V → Hp → Prop) → Prop
/-- what is wanted behind a statement -/
structure Ends where
  nx : St → Hp → Prop
  rt : VK
  bk : St → Hp → Prop := fun _ _ => False
  ct : St → Hp → Prop := fun _ _ => False
abbrev TS := Ends → St → Hp → Prop

def EP (X : Cx) (pins : List (Addr × Obj)) (σ : St) (Q : VK) (u : Value) (s' : Shared) : Prop := ∃ v H', Inv X pins σ H' s' ∧ RelV v u ∧ Q v H'
def TP (X : Cx) (pins : List (Addr × Obj)) (σ : St) (Q : Bool → Hp → Prop) (b : Bool) (s' : Shared) : Prop := ∃ H', Inv X pins σ H' s' ∧ Q b H'
def AP (X : Cx) (pins : List (Addr × Obj)) (σ : St) (Q : List V → Hp → Prop) (us : List Value) (s' : Shared) : Prop := ∃ vs H', Inv X pins σ H' s' ∧ Vals vs us ∧ Q vs H'
def SP (X : Cx) (pins : List (Addr × Obj)) (D : Ends) (f : Flow) (s' : Shared) : Prop :=
  match f with
  | .next => ∃ σ' H', Inv X pins σ' H' s' ∧ D.nx σ' H'
  | .brk => ∃ σ' H', Inv X pins σ' H' s' ∧ D.bk σ' H'
  | .cont => ∃ σ' H', Inv X pins σ' H' s' ∧ D.ct σ' H'
  | .ret u => ∃ v σ' H', Inv X pins σ' H' s' ∧ RelV v u ∧ D.rt v H'

def PE (X : Cx) (e : Expr) (t : TE) : Prop :=
  ∀ (pins : List (Addr × Obj)) (s : Shared) (σ : St) (H : Hp) (Q : VK), Inv X pins σ H s → t σ H Q → wpAny (model X.prog X.w) X.A (eval e X.env) (EP X pins σ Q) X.xe s
def PT (X : Cx) (e : Expr) (t : TT) : Prop :=
  ∀ (pins : List (Addr × Obj)) (s : Shared) (σ : St) (H : Hp) (Q : Bool → Hp → Prop), Inv X pins σ H s → t σ H Q → wpAny (model X.prog X.w) X.A (isTrue e X.env (eval e X.env)) (TP X pins σ Q) X.xe s
/-- a test whatever its 'whole' is (and, or) -/
def PW (X : Cx) (e : Expr) (t : TT) : Prop :=
  ∀ (whole : Sem Value) (pins : List (Addr × Obj)) (s : Shared) (σ : St) (H : Hp) (Q : Bool → Hp → Prop), Inv X pins σ H s → t σ H Q → wpAny (model X.prog X.w) X.A (isTrue e X.env whole) (TP X pins σ Q) X.xe s
theorem PW.pt {X : Cx} {e : Expr} {t : TT} (h : PW X e t) : PT X e t := h _
/-- an argument list (no star), from the left -/
def PA (X : Cx) (es : List Expr) (t : TA) : Prop :=
  ∀ (pos : Pos) (pins : List (Addr × Obj)) (s : Shared) (σ : St) (H : Hp) (Q : List V → Hp → Prop), Inv X pins σ H s → t σ H Q → wpAny (model X.prog X.w) X.A (spliced (backTo pos (starEach es X.env))) (AP X pins σ Q) X.xe s
def PS (X : Cx) (st : Stmt) (t : TS) : Prop :=
  ∀ (pins : List (Addr × Obj)) (s : Shared) (σ : St) (H : Hp) (D : Ends), Inv X pins σ H s → t D σ H → wpAny (model X.prog X.w) X.A (exec st X.env) (SP X pins D) X.xe s
def PSs (X : Cx) (st : List Stmt) (t : TS) : Prop :=
  ∀ (pins : List (Addr × Obj)) (s : Shared) (σ : St) (H : Hp) (D : Ends), Inv X pins σ H s → t D σ H → wpAny (model X.prog X.w) X.A (execs st X.env) (SP X pins D) X.xe s
/-- weaken the end -/
theorem thn {α : Type} {t : Sem α} {Q Q' : α → Shared → Prop} {M : Model} {A : Around} {E : Value → Shared → Prop} {s : Shared} (h : wpAny M A t Q E s) (hQ : ∀ a s, Q a s → Q' a s) : wpAny M A t Q' E s := wpAny_mono h hQ fun _ _ x => x
end L2

namespace L2
open PySem PySem.Spec PyProof.Rows
section
variable {X : Cx}


/-! ### names and constants -/
def tVar (i : Nat) : TE := fun σ H Q => ∃ v, σ[i]? = some (some v) ∧ Q v H
def tC (v : V) : TE := fun _ H Q => Q v H
theorem pe_var {i : Nat} {x : Str} {pos : Pos} (hN : X.N[i]? = some x) (hv : Vis X.env.scope x) (hd : (x == ("__debug__" : Str)) = false := by decide) (hcd : (x == ("__classdict__" : Str)) = false := by decide) : PE X (.Name x pos) (tVar i) := by
  intro pins s σ H Q I h
  obtain ⟨v, e, h⟩ := h
  obtain ⟨m, hn, hl⟩ := I.loc
  obtain ⟨u, r, l⟩ := hl i x v hN e hv
  have fin : EP X pins σ Q u s := ⟨v, H, I, r, h⟩
  rcases l with ⟨hk, hm⟩ | ⟨hk, c, hc, hcell⟩
  · exact wpAny_Name (wpAny_loadName_local I.ok.kind hk hn hm fin) hd
  · rcases hk with hk | hk
    · exact wpAny_Name (wpAny_loadName_cell I.ok.kind hk hc hcell fin) hd
    · exact wpAny_Name (wpAny_loadName_free I.ok.kind hk hc hcell fin hcd) hd
theorem pe_int {i j pos} : PE X (.Constant (.int i) j pos) (tC (.int i)) := fun _ _ _ H _ I h => wpAny_Constant_int ⟨.int i, H, I.tok _, ⟨_, rfl⟩, h⟩
theorem pe_bl {b j pos} : PE X (.Constant (.bool b) j pos) (tC (.bl b)) := fun _ _ _ H _ I h => Constant_bool ⟨.bl b, H, I, rfl, h⟩
theorem pe_str {x j pos} : PE X (.Constant (.str x) j pos) (tC (.str x)) := fun _ _ _ H _ I h => Calls.Constant_str ⟨.str x, H, I.tok _, ⟨_, rfl⟩, h⟩

/-- a global name of the def -/
def Gl (X : Cx) (x : Str) : Prop := X.env.kindOf x = some .globalImplicit
theorem ld_glob {E : Value → Shared → Prop} {pins : List (Addr × Obj)} {s : Shared} {σ : St} {H : Hp} {x : Str} {u : Value} {pos : Pos} {Q : Value → Shared → Prop} (I : Inv X pins σ H s) (hg : Gl X x) (hm : X.mg x = some u) (h : Q u s)
    (hd : (x == ("__debug__" : Str)) = false := by decide) : wpAny (model X.prog X.w) X.A (eval (.Name x pos) X.env) Q E s :=
  Calls.Name_function_global I.ok.kind hg (Calls.loadGlobal_global (by rw [I.ok.glob]; exact I.mod.glob.keeps I.bk) hm h) hd
theorem ld_blt {E : Value → Shared → Prop} {pins : List (Addr × Obj)} {s : Shared} {σ : St} {H : Hp} {x : Str} {u : Value} {pos : Pos} {Q : Value → Shared → Prop} (I : Inv X pins σ H s) (hg : Gl X x) (hm : X.mg x = none) (hv : bootBuiltins x = some u) (h : Q u s)
    (hn : x ≠ "__name__" := by decide) (hd : (x == ("__debug__" : Str)) = false := by decide) : wpAny (model X.prog X.w) X.A (eval (.Name x pos) X.env) Q E s := by
  obtain ⟨mb, h1, h2⟩ := I.mod.blt
  exact Calls.Name_function_global I.ok.kind hg (Calls.loadGlobal_builtin (by rw [I.ok.glob]; exact I.mod.glob.keeps I.bk) hm (by rw [I.ok.blt]; exact h1.keeps I.bk) ((h2 x hn).trans hv) h) hd
theorem pe_bltn {x : Str} {v : V} {u : Value} {pos : Pos} (hg : Gl X x) (hm : X.mg x = none) (hv : bootBuiltins x = some u) (r : RelV v u) (hn : x ≠ "__name__" := by decide) (hd : (x == ("__debug__" : Str)) = false := by decide) : PE X (.Name x pos) (tC v) :=
  fun _ _ _ H _ I h => ld_blt I hg hm hv ⟨v, H, I, r, h⟩ hn hd

/-! ### arithmetic -/
/-- two ints -/
def t2I (ta tb : TE) (k : Int → Int → Hp → Prop) : St → Hp → Prop := fun σ H => ta σ H fun x H1 => tb σ H1 fun y H2 => ∃ i j, x = .int i ∧ y = .int j ∧ k i j H2
def tAdd (ta tb : TE) : TE := fun σ H Q => t2I ta tb (fun i j H2 => Q (.int (i + j)) H2) σ H
def tSub (ta tb : TE) : TE := fun σ H Q => t2I ta tb (fun i j H2 => Q (.int (i - j)) H2) σ H
/-- the left factor below 2^64 -/
def tMul (ta tb : TE) : TE := fun σ H Q => t2I ta tb (fun i j H2 => (-(2 ^ 64) < i ∧ i < 2 ^ 64) ∧ Q (.int (i * j)) H2) σ H
variable {a b : Expr} {ta tb : TE} {pos : Pos}

/-! ### comparisons -/
def PC (X : Cx) (op : CmpOp) (a b : Expr) (t : TE) : Prop :=
  ∀ (pins : List (Addr × Obj)) (s : Shared) (σ : St) (H : Hp) (Q : VK), Inv X pins σ H s → t σ H Q →
    wpAny (model X.prog X.w) X.A (eval a X.env) (fun v s₁ => wpAny (model X.prog X.w) X.A (eval b X.env) (fun u s₂ => wpAny (model X.prog X.w) X.A (compareOp op v u) (EP X pins σ Q) X.xe s₂) X.xe s₁) X.xe s
def tCmp (p : Int → Int → Bool) (ta tb : TE) : TE := fun σ H Q => t2I ta tb (fun i j H2 => Q (.bl (p i j)) H2) σ H
abbrev tLt : TE → TE → TE := tCmp fun i j => decide (i < j)
abbrev tLe : TE → TE → TE := tCmp fun i j => decide (i ≤ j)
abbrev tGt : TE → TE → TE := tCmp fun i j => decide (j < i)
abbrev tGe : TE → TE → TE := tCmp fun i j => decide (j ≤ i)
abbrev tEqI : TE → TE → TE := tCmp fun i j => decide (i = j)
abbrev tNeI : TE → TE → TE := tCmp fun i j => !decide (i = j)
/-- is None -/
def tIsN (ta : TE) : TE := fun σ H Q => ta σ H fun x H1 => Q (.bl (decide (x = .non))) H1
def tNotN (ta : TE) : TE := fun σ H Q => ta σ H fun x H1 => Q (.bl (!decide (x = .non))) H1
/-- a comparison as a value, as a test -/
def tB (t : TE) : TT := fun σ H Q => t σ H fun x H1 => ∃ c, x = .bl c ∧ Q c H1
theorem pt_cmp {op : CmpOp} {t : TE} (h : PC X op a b t) (h1 : behindInMarks op b = false := by first | exact nobehind _ (by decide) (by decide) | rfl) : PT X (.Compare a [op] [b] pos) (tB t) := by
  intro pins s σ H Q I hw
  refine wpAny_isTrue_Compare1 (thn (h pins s σ H _ I hw) fun v s1 h1 => thn h1 fun u s2 h2 => thn h2 fun c s3 ⟨x, H1, I1, r1, q1⟩ => ?_) h1
  obtain ⟨d, rfl, q⟩ := q1
  cases r1
  exact wpAny_truthy_bool ⟨H1, I1, q⟩

/-! ### and, or, not -/
variable {tA tB' : TT} {rest : List Expr}
def tAnd (t u : TT) : TT := fun σ H Q => t σ H fun c H1 => if c = true then u σ H1 Q else Q false H1
def tOr (t u : TT) : TT := fun σ H Q => t σ H fun c H1 => if c = true then Q true H1 else u σ H1 Q
def tNot (t : TT) : TT := fun σ H Q => t σ H fun c H1 => Q (!c) H1
theorem pw_or1 (ha : PT X a tA) : PW X (.BoolOp .Or [a] pos) tA := by
  intro wh pins s σ H Q I h
  refine isTrue_or (thn (ha pins s σ H Q I h) fun c s1 e => ?_)
  cases c with
  | false => exact isTrue_or_nil e
  | true => exact e
theorem pw_or (ha : PT X a tA) (hb : PW X (.BoolOp .Or (b :: rest) pos) tB') : PW X (.BoolOp .Or (a :: b :: rest) pos) (tOr tA tB') := by
  intro wh pins s σ H Q I h
  refine isTrue_or (thn (ha pins s σ H _ I h) fun c s1 ⟨H1, I1, q1⟩ => ?_)
  cases c with
  | true => exact ⟨H1, I1, q1⟩
  | false => exact hb wh pins s1 σ H1 Q I1 q1
theorem pt_not (ha : PT X a tA) : PT X (.UnaryOp .Not a pos) (tNot tA) := by
  intro pins s σ H Q I h
  exact isTrue_not (ha pins s σ H (fun c H1 => Q (!c) H1) I h)
/-- .. as values (bools) -/
def tAndV (ta tb : TE) : TE := fun σ H Q => ta σ H fun x H1 => ∃ c, x = .bl c ∧ if c = true then tb σ H1 Q else Q (.bl false) H1
def tOrV (ta tb : TE) : TE := fun σ H Q => ta σ H fun x H1 => ∃ c, x = .bl c ∧ if c = true then Q (.bl true) H1 else tb σ H1 Q
def tNotV (ta : TE) : TE := fun σ H Q => ta σ H fun x H1 => ∃ c, x = .bl c ∧ Q (.bl (!c)) H1
/-- a if t else b -/
def tIf (t : TT) (ta tb : TE) : TE := fun σ H Q => t σ H fun c H1 => if c = true then ta σ H1 Q else tb σ H1 Q
theorem pe_ifExp {c : Expr} (hc : PT X c tA) (ha : PE X a ta) (hb : PE X b tb) : PE X (.IfExp c a b pos) (tIf tA ta tb) := by
  intro pins s σ H Q I h
  refine wpAny_IfExp (thn (hc pins s σ H _ I h) fun d s1 ⟨H1, I1, q1⟩ => ?_)
  cases d with
  | true => exact ha pins s1 σ H1 Q I1 q1
  | false => exact hb pins s1 σ H1 Q I1 q1
end
end L2

namespace L2
open PySem PySem.Spec PyProof.Rows

/-! ### a list, a tuple that is read: tracked, frozen, or an object of the module -/
def SqL (K : PySem.W.Frag) (H : Hp) (a : Addr) (xs : List V) : Prop :=
  Rd H a (.lst xs) ∨
    ∃ (o : Obj) (its : Array Value) (n : Nat), K.lookup a = some o ∧ o.cls = .type "list" ∧ o.dict = none ∧ o.data = .seq its n ∧ its.size ≤ sizeLine ∧ Vals xs its.toList
def SqT (K : PySem.W.Frag) (H : Hp) (a : Addr) (xs : List V) : Prop :=
  Rd H a (.tup xs) ∨
    ∃ (o : Obj) (its : Array Value) (n : Nat), K.lookup a = some o ∧ o.cls = .type "tuple" ∧ o.data = .seq its n ∧ its.size ≤ sizeLine ∧ Vals xs its.toList
def absV : Value → Option V
  | .none => some .non
  | .bool b => some (.bl b)
  | .int i _ => some (.int i)
  | .str x _ => some (.str x)
  | .bytes b _ => some (.byt b)
  | .float b _ => some (.flt b)
  | .ref a => some (.ref a)
  | .type n => some (.ty n)
  | _ => none
theorem RelV.abs {x : V} {u : Value} (r : RelV x u) : absV u = some x := by
  cases x with
  | non => cases r; rfl
  | bl _ => cases r; rfl
  | int _ => obtain ⟨t, rfl⟩ := r; rfl
  | str _ => obtain ⟨t, rfl⟩ := r; rfl
  | byt _ => obtain ⟨t, rfl⟩ := r; rfl
  | flt _ => obtain ⟨t, rfl⟩ := r; rfl
  | ref _ => cases r; rfl
  | ty _ => cases r; rfl
theorem RelV.inj {x y : V} {u : Value} (r : RelV x u) (q : RelV y u) : x = y := Option.some.inj (r.abs.symm.trans q.abs)
theorem Vals.inj : ∀ {xs ys : List V} {us : List Value}, Vals xs us → Vals ys us → xs = ys
  | _, _, _, .nil, .nil => rfl
  | _, _, _, .cons r t, .cons r' t' => by rw [r.inj r', Vals.inj t t']
section
variable {X : Cx} {pins : List (Addr × Obj)} {σ : St} {H : Hp} {s : Shared} {a : Addr} {xs ys : List V}
theorem SqL.of {K : PySem.W.Frag} (h : H a = some (.lst xs)) : SqL K H a xs := .inl (.inl h)
theorem SqT.of {K : PySem.W.Frag} (h : H a = some (.tup xs)) : SqT K H a xs := .inl (.inl h)
theorem Inv.list (I : Inv X pins σ H s) (h : SqL X.K H a xs) : ∃ its : List Value, Vals xs its ∧ PlainL s.heap a its.toArray ∧ xs.length ≤ sizeLine := by
  rcases h with h | ⟨o, its, n, hk, hc, hd, hs, hz, r⟩
  · obtain ⟨z, its, n, r, e⟩ := h.ok I.hok
    exact ⟨its, r, ⟨_, n, e, rfl, rfl, rfl⟩, z⟩
  · refine ⟨its.toList, r, ⟨o, n, I.kIn a o hk, hc, hd, by simpa using hs⟩, ?_⟩
    have e := r.length
    simp only [Array.length_toList] at e
    omega
theorem Inv.tuple (I : Inv X pins σ H s) (h : SqT X.K H a xs) : ∃ its : List Value, Vals xs its ∧ IsTup s.heap a its.toArray ∧ xs.length ≤ sizeLine := by
  rcases h with h | ⟨o, its, n, hk, hc, hs, hz, r⟩
  · obtain ⟨z, its, r, p⟩ := h.ok I.hok
    exact ⟨its, r, p, z⟩
  · refine ⟨its.toList, r, ⟨o, I.kIn a o hk, hc, n, by simpa using hs⟩, ?_⟩
    have e := r.length
    simp only [Array.length_toList] at e
    omega
theorem Inv.list_inj (I : Inv X pins σ H s) (h : SqL X.K H a xs) (h' : SqL X.K H a ys) : xs = ys := by
  obtain ⟨its, r, ⟨o, n, e, _, _, d⟩, _⟩ := I.list h
  obtain ⟨its', r', ⟨o', n', e', _, _, d'⟩, _⟩ := I.list h'
  rw [e] at e'; cases e'
  rw [d] at d'
  injection d' with d1 _
  have : its = its' := by simpa using congrArg Array.toList d1
  subst this
  exact r.inj r'
theorem Inv.tuple_inj (I : Inv X pins σ H s) (h : SqT X.K H a xs) (h' : SqT X.K H a ys) : xs = ys := by
  obtain ⟨its, r, ⟨o, e, _, n, d⟩, _⟩ := I.tuple h
  obtain ⟨its', r', ⟨o', e', _, n', d'⟩, _⟩ := I.tuple h'
  rw [e] at e'; cases e'
  rw [d] at d'
  injection d' with d1 _
  have : its = its' := by simpa using congrArg Array.toList d1
  subst this
  exact r.inj r'
end

/-! ### another wish about exceptions -/
abbrev Cx.wish (X : Cx) (E : Value → Shared → Prop) : Cx := { X with xe := E }
/-- no exception leaves -/
abbrev Cx.nox (X : Cx) : Cx := X.wish fun _ _ => False
theorem Cx.Ok.wish {X : Cx} (ok : X.Ok) (E : Value → Shared → Prop) : (X.wish E).Ok :=
  ⟨ok.mod, ok.kind, ok.glob, ok.blt, ok.above, ok.inj, ok.has, ok.cab, ok.hd, ok.frames, ok.stk, ok.exf, ok.bs, ok.bsz, ok.noex, ok.exfs, ok.funs, ok.frf⟩
theorem Cx.Ok.unwish {X : Cx} {E : Value → Shared → Prop} (ok : (X.wish E).Ok) : X.Ok :=
  ⟨ok.mod, ok.kind, ok.glob, ok.blt, ok.above, ok.inj, ok.has, ok.cab, ok.hd, ok.frames, ok.stk, ok.exf, ok.bs, ok.bsz, ok.noex, ok.exfs, ok.funs, ok.frf⟩
section
variable {X : Cx} {pins : List (Addr × Obj)} {σ : St} {H : Hp} {s : Shared} {E : Value → Shared → Prop}
theorem Inv.wish (I : Inv X pins σ H s) (E : Value → Shared → Prop) : Inv (X.wish E) pins σ H s := ⟨I.ok.wish E, I.os, I.bare, I.base, I.loc, I.cell, I.free, I.freeC, I.pin, I.hok, I.len⟩
theorem Inv.unwish (I : Inv (X.wish E) pins σ H s) : Inv X pins σ H s := ⟨I.ok.unwish, I.os, I.bare, I.base, I.loc, I.cell, I.free, I.freeC, I.pin, I.hok, I.len⟩
theorem SP.unwish {D : Ends} {f : Flow} {s' : Shared} (h : SP (X.wish E) pins D f s') : SP X pins D f s' := by
  cases f with
  | next => obtain ⟨σ', H', I, q⟩ := h; exact ⟨σ', H', I.unwish, q⟩
  | brk => obtain ⟨σ', H', I, q⟩ := h; exact ⟨σ', H', I.unwish, q⟩
  | cont => obtain ⟨σ', H', I, q⟩ := h; exact ⟨σ', H', I.unwish, q⟩
  | ret u => obtain ⟨v, σ', H', I, r, q⟩ := h; exact ⟨v, σ', H', I.unwish, r, q⟩
theorem PSs.nox {st : List Stmt} {t : TS} (h : PSs X.nox st t) : PSs X st t := fun pins s σ H D I hw =>
  wpAny_mono (h pins s σ H D (I.wish _) hw) (fun _ _ q => q.unwish) fun _ _ z => False.elim z
end

/-! ### blocks and small statements -/
section
variable {X : Cx} {st : Stmt} {rest : List Stmt} {t u : TS} {e : Expr} {te : TE} {pos : Pos}
def tNext : TS := fun D σ H => D.nx σ H
def tSeq (t u : TS) : TS := fun D σ H => t { D with nx := u D } σ H
theorem pss_nil : PSs X [] tNext := fun _ _ σ H _ I h => wpAny_execs_nil ⟨σ, H, I, h⟩
theorem pss_cons (h1 : PS X st t) (h2 : PSs X rest u) : PSs X (st :: rest) (tSeq t u) := by
  intro pins s σ H D I h
  refine wpAny_execs_cons (thn (h1 pins s σ H { D with nx := u D } I h) fun f s1 q => ?_)
  cases f with
  | next =>
    obtain ⟨σ', H', I', q⟩ := q
    exact h2 pins s1 σ' H' D I' q
  | ret v => exact q
  | brk => exact q
  | cont => exact q
theorem pss_one (h1 : PS X st t) : PSs X [st] t := by
  intro pins s σ H D I h
  refine wpAny_execs_cons (thn (h1 pins s σ H D I h) fun f s1 q => ?_)
  cases f with
  | next => exact wpAny_execs_nil q
  | ret v => exact q
  | brk => exact q
  | cont => exact q
def tBreak : TS := fun D σ H => D.bk σ H
def tCont : TS := fun D σ H => D.ct σ H
/-- in a def's body nothing is shown -/
theorem Inv.quiet {pins : List (Addr × Obj)} {σ : St} {H : Hp} {s : Shared} (I : Inv X pins σ H s) : interactive X.env = false := by simp [interactive, I.ok.kind]
/-- an expression whose value is dropped -/
def tDrop (te : TE) : TS := fun D σ H => te σ H fun _ H1 => D.nx σ H1
theorem ps_expr (he : PE X e te) (hs : swapsWith e none pos.line X.env = pure false := by rfl) : PS X (.Expr e pos) (tDrop te) := by
  intro pins s σ H D I h
  exact wpAny_Expr_any (thn (he pins s σ H _ I h) fun v s1 ⟨x, H1, I1, r1, q1⟩ => ⟨σ, H1, I1, q1⟩) I.quiet hs
def tRet (te : TE) : TS := fun D σ H => te σ H D.rt
theorem ps_ret (he : PE X e te) : PS X (.Return (some e) pos) (tRet te) := by
  intro pins s σ H D I h
  exact wpAny_Return_some (thn (he pins s σ H _ I h) fun v s1 ⟨x, H1, I1, r1, q1⟩ => ⟨x, σ, H1, I1, r1, q1⟩)
def tRetN : TS := fun D _ H => D.rt .non H
def tIfS (c : TT) (t u : TS) : TS := fun D σ H => c σ H fun b H1 => if b = true then t D σ H1 else u D σ H1
theorem ps_if {c : Expr} {a b : List Stmt} {tc : TT} (hc : PT X c tc) (ha : PSs X a t) (hb : PSs X b u) : PS X (.If c a b pos) (tIfS tc t u) := by
  intro pins s σ H D I h
  refine wpAny_If (thn (hc pins s σ H _ I h) fun d s1 ⟨H1, I1, q1⟩ => ?_)
  cases d with
  | true => exact ha pins s1 σ H1 D I1 q1
  | false => exact hb pins s1 σ H1 D I1 q1
/-- code that the proof never comes to -/
def tNever : TS := fun _ _ _ => False
end

/-! ### targets -/
abbrev TG := V → St → Hp → (St → Hp → Prop) → Prop
abbrev TGs := List V → St → Hp → (St → Hp → Prop) → Prop
def PG (X : Cx) (target : Expr) (t : TG) : Prop :=
  ∀ (pins : List (Addr × Obj)) (s : Shared) (σ : St) (H : Hp) (v : V) (u : Value) (Q : St → Hp → Prop), Inv X pins σ H s → RelV v u → t v σ H Q →
    wpAny (model X.prog X.w) X.A (assign target X.env u) (fun _ s' => ∃ σ' H', Inv X pins σ' H' s' ∧ Q σ' H') X.xe s
/-- several targets, one after another -/
def PGs (X : Cx) (ts : List Expr) (t : TGs) : Prop :=
  ∀ (pins : List (Addr × Obj)) (s : Shared) (σ : St) (H : Hp) (vs : List V) (us : List Value) (Q : St → Hp → Prop), Inv X pins σ H s → Vals vs us → t vs σ H Q →
    wpAny (model X.prog X.w) X.A (assignInOrder ((assignEach ts X.env).map (·.2)) us) (fun _ s' => ∃ σ' H', Inv X pins σ' H' s' ∧ Q σ' H') X.xe s
/-- o[i] = v, by values -/
abbrev TSet := V → V → V → Hp → (Hp → Prop) → Prop
def PSet (X : Cx) (t : TSet) : Prop :=
  ∀ (pins : List (Addr × Obj)) (s : Shared) (σ : St) (H : Hp) (o i v : V) (ov iv u : Value) (Q : Hp → Prop), Inv X pins σ H s → RelV o ov → RelV i iv → RelV v u → t o i v H Q →
    wpAny (model X.prog X.w) X.A (setItem ov iv u) (fun _ s' => ∃ H', Inv X pins σ H' s' ∧ Q H') X.xe s
/-- a op= b, by values -/
abbrev TIp := V → V → Hp → VK → Prop
def PIp (X : Cx) (op : Operator) (t : TIp) : Prop :=
  ∀ (pins : List (Addr × Obj)) (s : Shared) (σ : St) (H : Hp) (x y : V) (v u : Value) (Q : VK), Inv X pins σ H s → RelV x v → RelV y u → t x y H Q →
    wpAny (model X.prog X.w) X.A (inplaceOp op v u) (EP X pins σ Q) X.xe s
section
variable {X : Cx} {pos : Pos}
def gName (i : Nat) : TG := fun v σ H Q => Q (σ.set i (some v)) H
theorem pg_name {i : Nat} {x : Str} (hN : X.N.Nodup) (hi : X.N[i]? = some x) (hx : Loc X.env.scope x) (hf : X.fn x = true ∨ X.env.scope.names.lookup x = some .local := by first | exact .inl rfl | exact .inr rfl | assumption) : PG X (.Name x pos) (gName i) := by
  intro pins s σ H v u Q I r h
  exact wpAny_assign_Name (store_ok I hN hi hx r (fun s' I' => ⟨_, H, I', h⟩) hf)
def gNil : TGs := fun vs σ H Q => vs = [] ∧ Q σ H
def gCons (t : TG) (u : TGs) : TGs := fun vs σ H Q => ∃ v r, vs = v :: r ∧ t v σ H fun σ' H' => u r σ' H' Q
/-- (a, b, ..) = a tuple of that length -/
def gTup (K : PySem.W.Frag) (n : Nat) (t : TGs) : TG := fun v σ H Q => ∃ a xs, v = .ref a ∧ SqT K H a xs ∧ xs.length = n ∧ t xs σ H Q
/-- o[i] = .. -/
def gSub (to ti : TE) (t : TSet) : TG := fun v σ H Q => to σ H fun o H1 => ti σ H1 fun i H2 => t o i v H2 fun H3 => Q σ H3
theorem pg_sub {o i : Expr} {to ti : TE} {t : TSet} (ho : PE X o to) (hi : PE X i ti) (hs : PSet X t)
    (ha : ∀ v, assign (.Subscript o i pos) X.env v = (do
      let ov ← holding [v] (eval o X.env)
      let iv ← holding [v, ov] (eval i X.env)
      standAt pos
      holding [v, ov, iv] (setItem ov iv v)
      release [v, ov, iv] []) := by intro _; rfl) : PG X (.Subscript o i pos) (gSub to ti t) := by
  intro pins s σ H v u Q I r h
  rw [ha]
  refine wpAny_bind (wpAny_holding (thn (ho pins s σ H _ I h) fun ov s1 ⟨x, H1, I1, r1, q1⟩ => ?_))
  refine wpAny_bind (wpAny_holding (thn (hi pins s1 σ H1 _ I1 q1) fun iv s2 ⟨y, H2, I2, r2, q2⟩ => ?_))
  refine wpAny_bind (wpAny_standAt (wpAny_bind (wpAny_holding (thn (hs pins s2 σ H2 x y v ov iv u _ I2 r1 r2 r q2) fun _ s3 ⟨H3, I3, q3⟩ => ?_))))
  exact wpAny_release ⟨σ, H3, I3, q3⟩
/-- target = value -/
def tAsg (te : TE) (g : TG) : TS := fun D σ H => te σ H fun x H1 => g x σ H1 D.nx
theorem ps_asg {tg e : Expr} {te : TE} {g : TG} (he : PE X e te) (hg : PG X tg g) (hs : swapsWithSole [tg] e pos.line X.env = pure false := by rfl) (hw : swappedStores [tg] e X.env = pure none := by rfl)
    (h1 : (assignEach [tg] X.env).map (·.2) = [assign tg X.env] := by rfl) : PS X (.Assign [tg] e pos) (tAsg te g) := by
  intro pins s σ H D I h
  refine wpAny_Assign_stores (thn (he pins s σ H _ I h) fun v s1 ⟨x, H1, I1, r1, q1⟩ => ?_) hs hw
  rw [h1]
  exact thn (hg pins s1 σ H1 x v _ I1 r1 q1) fun _ s2 q => q
/-- name = value -/
theorem ps_set {i : Nat} {x : Str} {e : Expr} {te : TE} {pos' : Pos} (hN : X.N.Nodup) (hi : X.N[i]? = some x) (hx : Loc X.env.scope x) (he : PE X e te) (hs : swapsWith e (some (.Name x pos')) pos.line X.env = pure false := by rfl) (hf : X.fn x = true ∨ X.env.scope.names.lookup x = some .local := by first | exact .inl rfl | exact .inr rfl | assumption) :
    PS X (.Assign [.Name x pos'] e pos) (tAsg te (gName i)) := by
  intro pins s σ H D I h
  refine wpAny_Assign_Name (thn (he pins s σ H _ I h) fun v s1 ⟨y, H1, I1, r1, q1⟩ => ?_) hs
  exact store_ok I1 hN hi hx r1 (fun s2 I2 => ⟨_, H1, I2, q1⟩) hf
/-- a, b = x, y with plain local names: stored from the right; the pair itself is not tracked (the opening rows as in PyProof/Rows/TupAssign.lean:23) -/
def tPar (i j : Nat) (ta : TA) : TS := fun D σ H => ta σ H fun vs H1 => ∃ v w, vs = [v, w] ∧ D.nx ((σ.set i (some v)).set j (some w)) H1
/-- name op= e -/
def tAug (i : Nat) (te : TE) (ti : TIp) : TS := fun D σ H => ∃ x, σ[i]? = some (some x) ∧ te σ H fun y H1 => ti x y H1 fun z H2 => D.nx (σ.set i (some z)) H2
/-- o[i] op= e -/
def tAugS (to ti te : TE) (tget : V → V → Hp → VK → Prop) (tip : TIp) (tset : TSet) : TS := fun D σ H => to σ H fun o H1 => ti σ H1 fun i H2 => tget o i H2 fun x H3 => te σ H3 fun y H4 => tip x y H4 fun z H5 => tset o i z H5 fun H6 => D.nx σ H6
/-- o[i], by values -/
def PGet (X : Cx) (t : V → V → Hp → VK → Prop) : Prop :=
  ∀ (pins : List (Addr × Obj)) (s : Shared) (σ : St) (H : Hp) (o i : V) (ov iv : Value) (Q : VK), Inv X pins σ H s → RelV o ov → RelV i iv → t o i H Q →
    wpAny (model X.prog X.w) X.A (getItem ov iv) (EP X pins σ Q) X.xe s
/-- ints -/
def ipI (f : Int → Int → Int) : TIp := fun x y H Q => ∃ i j, x = .int i ∧ y = .int j ∧ Q (.int (f i j)) H
end

/-! ### while -/
section
variable {X : Cx} {pos : Pos}
/-- the invariant W with its measure -/
def tWhile (c : TT) (tb : TS) : TS := fun D σ H => ∃ W : Nat → St → Hp → Prop, (∃ m, W m σ H) ∧ ∀ m σ H, W m σ H →
  c σ H fun b H1 => if b = true then ∃ N : St → Hp → Prop, (∀ σ' H', N σ' H' → ∃ m', m' < m ∧ W m' σ' H') ∧ tb { D with nx := N, ct := N, bk := D.nx } σ H1 else D.nx σ H1
theorem ps_while {c : Expr} {body : List Stmt} {tc : TT} {tb : TS} (hp : PassesOwn (model X.prog X.w) X.A X.env X.xe) (hc : PT X c tc) (hb : PSs X body tb) : PS X (.While c body [] pos) (tWhile tc tb) := by
  intro pins s σ H D I h
  obtain ⟨W, ⟨m0, w0⟩, turn⟩ := h
  refine wpAny_While (codeAny_whileLoop (fun n s' => ∃ σ' H', Inv X pins σ' H' s' ∧ W n σ' H') ?_ m0 ⟨σ, H, I, w0⟩)
  rintro n s1 ⟨σ1, H1, I1, w1⟩
  refine wpAny_passesOwn hp (thn (hc pins s1 σ1 H1 _ I1 (turn n σ1 H1 w1)) fun b s2 ⟨H2, I2, q2⟩ => ?_)
  cases b with
  | true =>
    obtain ⟨N, hN, q2⟩ := q2
    rw [if_pos rfl]
    refine wpAny_passesOwn hp (thn (hb pins s2 σ1 H2 _ I2 q2) fun f s3 q3 => ?_)
    cases f with
    | next =>
      obtain ⟨σ3, H3, I3, n3⟩ := q3
      obtain ⟨m', hm, w3⟩ := hN σ3 H3 n3
      exact ⟨m', hm, σ3, H3, I3, w3⟩
    | cont =>
      obtain ⟨σ3, H3, I3, n3⟩ := q3
      obtain ⟨m', hm, w3⟩ := hN σ3 H3 n3
      exact ⟨m', hm, σ3, H3, I3, w3⟩
    | brk => exact q3
    | ret v => exact q3
  | false =>
    rw [if_neg Bool.false_ne_true]
    exact wpAny_execs_nil ⟨σ1, H2, I2, q2⟩
end

/-! ### what a loop or a comprehension walks -/
/-- at turn i: it yields x (the heap may grow), or it stops -/
structure It where
  go : Nat → Hp → Prop
  yld : Nat → Hp → V → Hp → Prop
  stop : Nat → Hp → Prop
/-- the iterator's own objects may turn: they are not the frame's, not pinned, younger than the entry (or a comprehension's own) -/
def FpOk (X : Cx) (pins : List (Addr × Obj)) (H : Hp) (b : Addr) : Prop :=
  H b = none ∧ b ≠ X.env.locals ∧ b ∉ X.fs ∧ (b ∈ X.ex ∨ X.s₀.heap.objs.size ≤ b) ∧ (∀ x c, X.env.cells.lookup x = some c → c ≠ b) ∧ ∀ p ∈ X.pn ++ pins, p.1 ≠ b
theorem Inv.fpOk {X : Cx} {pins : List (Addr × Obj)} {σ : St} {H H' : Hp} {s : Shared} {b : Addr} (I : Inv X pins σ H s) (hb : s.heap.objs.size ≤ b) (hn : H' b = none) : FpOk X pins H' b := by
  refine ⟨hn, Nat.ne_of_gt (Nat.lt_of_lt_of_le I.lt hb), I.nofs hb, .inr (Nat.le_trans I.sz hb), fun x c e z => ?_, fun p hp z => ?_⟩
  · obtain ⟨v, q⟩ := I.cell x c e
    exact absurd (Nat.lt_of_lt_of_le q.lt (by rw [z]; exact hb)) (Nat.lt_irrefl _)
  · exact absurd (Nat.lt_of_lt_of_le (Heap.lt_size (I.pin p hp).1) (by rw [z]; exact hb)) (Nat.lt_irrefl _)
structure Turn (P : Program) (w : World) (K : PySem.W.Frag) (tg : Expr) (J : It) (fp : List Addr) (it : Addr) (tn : Nat → Heap → Prop) : Prop where
  mem : it ∈ fp
  obj : ∀ i h, tn i h → ∀ b ∈ fp, ∃ o, h.get? b = some o ∧ ∀ v, o.data ≠ .cell v
  keep : ∀ i h h', tn i h → (∀ b ∈ fp, ∀ o, h.get? b = some o → h'.get? b = some o) → tn i h'
  item : ∀ (X : Cx), X.prog = P → X.w = w → X.K = K → X.calm = true → ∀ (i : Nat) (pins : List (Addr × Obj)) (s : Shared) (σ : St) (H : Hp) (E : Value → Shared → Prop), Inv X pins σ H s → (∀ b ∈ fp, FpOk X pins H b) → tn i s.heap → J.go i H →
    wpAny (model P w) X.A (pyNext (.ref it)) (fun r s1 => ∃ u, r = some u ∧
      wpAny (model P w) X.A (letOwnedTupleGo tg (.ref it) u) (fun _ s2 => ∃ x H', Inv X pins σ H' s2 ∧ RelV x u ∧ J.yld i H x H' ∧ tn (i + 1) s2.heap ∧ ∀ b ∈ fp, H' b = none) E s1) E s
  done : ∀ (X : Cx), X.prog = P → X.w = w → X.K = K → X.calm = true → ∀ (i : Nat) (pins : List (Addr × Obj)) (s : Shared) (σ : St) (H : Hp) (E : Value → Shared → Prop), Inv X pins σ H s → (∀ b ∈ fp, FpOk X pins H b) → tn i s.heap → J.stop i H →
    wpAny (model P w) X.A (pyNext (.ref it)) (fun r s1 => r = none ∧ Inv X pins σ H s1) E s
  self : ∀ (A : Around) (i : Nat) (s : Shared) (Q : Value → Shared → Prop) (E : Value → Shared → Prop), tn i s.heap → Q (.ref it) s → wpAny (model P w) A (pyIter (.ref it)) Q E s
abbrev TI := St → Hp → (It → Hp → Prop) → Prop
/-- an iterator has come -/
def PIE (X : Cx) (pins : List (Addr × Obj)) (σ : St) (tg : Expr) (R : It → Hp → Prop) (itv : Value) (s2 : Shared) : Prop :=
  ∃ (it : Addr) (fp : List Addr) (tn : Nat → Heap → Prop) (J : It) (H' : Hp), itv = .ref it ∧ Inv X pins σ H' s2 ∧ Turn X.prog X.w X.K tg J fp it tn ∧ tn 0 s2.heap ∧ (∀ b ∈ fp, FpOk X pins H' b) ∧ R J H'
def PI (X : Cx) (tg iter : Expr) (wi : TI) : Prop :=
  ∀ (pins : List (Addr × Obj)) (s : Shared) (σ : St) (H : Hp) (R : It → Hp → Prop), Inv X pins σ H s → wi σ H R →
    wpAny (model X.prog X.w) X.A (eval iter X.env) (fun v s1 => wpAny (model X.prog X.w) X.A (pyIter v) (PIE X pins σ tg R) X.xe s1) X.xe s

/-- the step ahead of the store is nothing for an iterator that keeps no tuple -/
theorem go_of {M : Model} {A : Around} {E : Value → Shared → Prop} {s : Shared} {tg : Expr} {it : Addr} {u : Value} {o : Obj} {n : String} {vs : Array Value} {Q : Unit → Shared → Prop} (ho : s.heap.get? it = some o) (hc : o.cls = .type n) (hd : o.data = .fields vs)
    (hn : ["enumerate", "zip", "dict_itemiterator", "dict_reverseitemiterator", "odict_iterator", "itertools.zip_longest", "itertools.pairwise"].contains n = false) (hQ : Q () s) : wpAny M A (letOwnedTupleGo tg (.ref it) u) Q E s := by
  unfold letOwnedTupleGo
  cases tg <;> first
    | exact wpAny_pure hQ
    | (cases u <;> first
        | exact wpAny_pure hQ
        | (refine wpAny_bind (wpAny_load ho ?_)
           rw [hc, hd]
           show wpAny M A (if (["enumerate", "zip", "dict_itemiterator", "dict_reverseitemiterator", "odict_iterator", "itertools.zip_longest", "itertools.pairwise"].contains n && vs[0]? == some (rawInt _)) = true then _ else _) Q E s
           rw [if_neg (by intro h; rw [hn, Bool.false_and] at h; cases h)]
           exact wpAny_pure hQ))

/-- the list at a, as it stands at each turn (a loop may append to it) -/
def Itl (K : PySem.W.Frag) (a : Addr) : It :=
  ⟨fun i H => ∃ xs x, SqL K H a xs ∧ xs[i]? = some x, fun i H x H' => H' = H ∧ ∀ xs, SqL K H a xs → xs[i]? = some x, fun i H => ∃ xs, SqL K H a xs ∧ xs.length ≤ i⟩
def Itt (K : PySem.W.Frag) (a : Addr) : It :=
  ⟨fun i H => ∃ xs x, SqT K H a xs ∧ xs[i]? = some x, fun i H x H' => H' = H ∧ ∀ xs, SqT K H a xs → xs[i]? = some x, fun i H => ∃ xs, SqT K H a xs ∧ xs.length ≤ i⟩
/-- lo, lo + 1, .. (n of them) -/
def Itr (lo : Int) (n : Nat) : It := ⟨fun i _ => i < n, fun i H x H' => H' = H ∧ x = .int (lo + i), fun i _ => n ≤ i⟩
theorem turn_list {P : Program} {w : World} {K : PySem.W.Frag} {tg : Expr} (a it : Addr) : Turn P w K tg (Itl K a) [it] it (fun i h => h.IsListIter it a i) where
  mem := by simp
  obj := fun i h st b hb => by
    have e : b = it := by simpa using hb
    subst e
    obtain ⟨o, e, c, d⟩ := st
    exact ⟨o, e, fun v z => by rw [d] at z; cases z⟩
  keep := fun i h h' st k => st.at fun o e => k it (by simp) o e
  item := by
    intro X hP hw hK hc i pins s σ H E I hf st hg
    subst hP hw hK
    obtain ⟨xs, x, hq, hx⟩ := hg
    obtain ⟨its, rv, p, hz⟩ := I.list hq
    obtain ⟨u, hu, ru⟩ := rv.get hx
    obtain ⟨f0, f1, f2, f3, f4, f5⟩ := hf it (by simp)
    refine wpAny_pyNext_list_item st p.isList (x := u) (by simpa using hu) fun h' st' sb => ?_
    have I1 : Inv X pins σ H { s with heap := h' } := I.turned (t' := s.toks) (fun b o hb e => (sb.2 b hb).trans e) f0 f1 f3 f4 f5
    obtain ⟨o, e, c, d⟩ := id st'
    exact ⟨u, rfl, go_of (s := { s with heap := h' }) e c d (by decide) ⟨x, H, I1, ru, ⟨rfl, fun ys hy => by rw [I.list_inj hy hq]; exact hx⟩, st', fun b hb => (hf b hb).1⟩⟩
  done := by
    intro X hP hw hK hc i pins s σ H E I hf st hg
    subst hP hw hK
    obtain ⟨xs, hq, hx⟩ := hg
    obtain ⟨its, rv, p, hz⟩ := I.list hq
    obtain ⟨f0, f1, f2, f3, f4, f5⟩ := hf it (by simp)
    have hl := rv.length
    exact wpAny_pyNext_list_end (I.ok.hd hc) st p.isList (by simp; omega) fun h' eb => ⟨rfl, I.turned (t' := s.toks) (fun b o hb e => eb b o hb e) f0 f1 f3 f4 f5⟩
  self := fun _ _ _ _ _ st h => wpAny_pyIter_listiter st h
theorem turn_tuple {P : Program} {w : World} {K : PySem.W.Frag} {tg : Expr} (a it : Addr) : Turn P w K tg (Itt K a) [it] it (fun i h => h.IsTupleIter it a i) where
  mem := by simp
  obj := fun i h st b hb => by
    have e : b = it := by simpa using hb
    subst e
    obtain ⟨o, e, c, d⟩ := st
    exact ⟨o, e, fun v z => by rw [d] at z; cases z⟩
  keep := fun i h h' st k => st.at fun o e => k it (by simp) o e
  item := by
    intro X hP hw hK hc i pins s σ H E I hf st hg
    subst hP hw hK
    obtain ⟨xs, x, hq, hx⟩ := hg
    obtain ⟨its, rv, p, hz⟩ := I.tuple hq
    obtain ⟨u, hu, ru⟩ := rv.get hx
    obtain ⟨f0, f1, f2, f3, f4, f5⟩ := hf it (by simp)
    refine wpAny_pyNext_tuple_item st (show s.heap.IsTuple a its.toArray from p) (x := u) (by simpa using hu) fun h' st' sb => ?_
    have I1 : Inv X pins σ H { s with heap := h' } := I.turned (t' := s.toks) (fun b o hb e => (sb.2 b hb).trans e) f0 f1 f3 f4 f5
    obtain ⟨o, e, c, d⟩ := id st'
    exact ⟨u, rfl, go_of (s := { s with heap := h' }) e c d (by decide) ⟨x, H, I1, ru, ⟨rfl, fun ys hy => by rw [I.tuple_inj hy hq]; exact hx⟩, st', fun b hb => (hf b hb).1⟩⟩
  done := by
    intro X hP hw hK hc i pins s σ H E I hf st hg
    subst hP hw hK
    obtain ⟨xs, hq, hx⟩ := hg
    obtain ⟨its, rv, p, hz⟩ := I.tuple hq
    obtain ⟨f0, f1, f2, f3, f4, f5⟩ := hf it (by simp)
    have hl := rv.length
    exact wpAny_pyNext_tuple_end (I.ok.hd hc) st (show s.heap.IsTuple a its.toArray from p) (by simp; omega) fun h' eb => ⟨rfl, I.turned (t' := s.toks) (fun b o hb e => eb b o hb e) f0 f1 f3 f4 f5⟩
  self := fun _ _ _ _ _ st h => wpAny_pyIter_tupleiter st h
theorem turn_range {P : Program} {w : World} {K : PySem.W.Frag} {tg : Expr} (it : Addr) (lo : Int) (n : Nat) : Turn P w K tg (Itr lo n) [it] it (fun i h => IsRangeIter h it (lo + (i : Nat) * 1) ((n : Int) - (i : Nat)) 1) where
  mem := by simp
  obj := fun i h st b hb => by
    have e : b = it := by simpa using hb
    subst e
    exact ⟨_, st, fun v z => by
      have z' : Data.fields _ = Data.cell v := z
      cases z'⟩
  keep := fun i h h' st k => k it (by simp) _ st
  item := by
    intro X hP hw hK hc i pins s σ H E I hf st hg
    subst hP hw hK
    obtain ⟨f0, f1, f2, f3, f4, f5⟩ := hf it (by simp)
    have W := Walks.range (prog := X.prog) (w := X.w) (I.ok.hd hc) it lo 1 n
    refine W.item i s _ _ hg st fun v h' tk hv st' kk => ?_
    obtain ⟨t, rfl⟩ := hv
    have I1 : Inv X pins σ H { s with heap := h', toks := tk } := I.turned (fun b o hb e => kk b o (by simpa using hb) e) f0 f1 f3 f4 f5
    refine ⟨_, rfl, go_of (s := { s with heap := h', toks := tk }) (n := "range_iterator") st' rfl rfl (by decide) ⟨.int (lo + i), H, I1, ⟨t, ?_⟩, ⟨rfl, rfl⟩, st', fun b hb => (hf b hb).1⟩⟩
    rw [Int.mul_one]
  done := by
    intro X hP hw hK hc i pins s σ H E I hf st hg
    subst hP hw hK
    obtain ⟨f0, f1, f2, f3, f4, f5⟩ := hf it (by simp)
    exact wpAny_pyNext_range_end (I.ok.hd hc) st (by have : n ≤ i := hg; omega) fun h' eb => ⟨rfl, I.turned (t' := s.toks) (fun b o hb e => eb b o hb e) f0 f1 f3 f4 f5⟩
  self := fun _ _ _ _ _ st h => wpAny_pyIter_rangeiter st h
end L2

namespace L2
open PySem PySem.Spec PyProof.Rows
section
variable {X : Cx} {tg : Expr}
def iList (K : PySem.W.Frag) (tl : TE) : TI := fun σ H R => tl σ H fun x H1 => ∃ a, x = .ref a ∧ (∃ xs, SqL K H1 a xs) ∧ R (Itl K a) H1
def iTup (K : PySem.W.Frag) (tl : TE) : TI := fun σ H R => tl σ H fun x H1 => ∃ a, x = .ref a ∧ (∃ xs, SqT K H1 a xs) ∧ R (Itt K a) H1
theorem pi_list {l : Expr} {tl : TE} (hl : PE X l tl) : PI X tg l (iList X.K tl) := by
  intro pins s σ H R I h
  refine thn (hl pins s σ H _ I h) fun v s1 ⟨x, H1, I1, r1, q1⟩ => ?_
  obtain ⟨a, e, ⟨xs, hq⟩, q⟩ := q1
  subst e
  cases r1
  obtain ⟨its, rv, p, hz⟩ := I1.list hq
  refine wpAny_pyIter_list p.isList ?_
  refine ⟨s1.heap.objs.size, [s1.heap.objs.size], _, _, H1, rfl, I1.kept (t' := s1.toks) fun b o e => Heap.get?_push_of_some _ e, turn_list a _, ⟨_, Heap.get?_push_size _ rfl, rfl, rfl⟩, fun b hb => ?_, q⟩
  have e : b = s1.heap.objs.size := by simpa using hb
  subst e
  exact I1.fpOk (Nat.le_refl _) (I1.hok.fresh (Nat.le_refl _))
theorem pi_tup {l : Expr} {tl : TE} (hl : PE X l tl) : PI X tg l (iTup X.K tl) := by
  intro pins s σ H R I h
  refine thn (hl pins s σ H _ I h) fun v s1 ⟨x, H1, I1, r1, q1⟩ => ?_
  obtain ⟨a, e, ⟨xs, hq⟩, q⟩ := q1
  subst e
  cases r1
  obtain ⟨its, rv, p, hz⟩ := I1.tuple hq
  refine wpAny_pyIter_tuple (show s1.heap.IsTuple a its.toArray from p) ?_
  refine ⟨s1.heap.objs.size, [s1.heap.objs.size], _, _, H1, rfl, I1.kept (t' := s1.toks) fun b o e => Heap.get?_push_of_some _ e, turn_tuple a _, ⟨_, Heap.get?_push_size _ rfl, rfl, rfl⟩, fun b hb => ?_, q⟩
  have e : b = s1.heap.objs.size := by simpa using hb
  subst e
  exact I1.fpOk (Nat.le_refl _) (I1.hok.fresh (Nat.le_refl _))
/-- a range object just made, walked -/
theorem range_it {pins : List (Addr × Obj)} {σ : St} {H : Hp} {s : Shared} {R : It → Hp → Prop} {E : Value → Shared → Prop} {lo hi : Int} {t u v : Tok} {tk : Nat} (I : Inv X pins σ H s) (h1 : -(2 ^ 62) ≤ lo) (h2 : lo < 2 ^ 62) (h3 : -(2 ^ 62) ≤ hi) (h4 : hi < 2 ^ 62)
    (q : R (Itr lo (hi - lo).toNat) H) : wpAny (model X.prog X.w) X.A (pyIter (.ref s.heap.objs.size)) (PIE X pins σ tg R) E { s with heap := s.heap.push { cls := .type "range", data := .fields #[.int lo t, .int hi u, .int 1 v] }, toks := tk } := by
  refine wpAny_pyIter_range (IsRange.new ..) (small_one h1 h2 h3 h4) ?_
  have I1 : Inv X pins σ H { s with heap := s.heap.push { cls := .type "range", data := .fields #[.int lo t, .int hi u, .int 1 v] }, toks := tk } := I.kept fun b o e => Heap.get?_push_of_some _ e
  refine ⟨(s.heap.push { cls := .type "range", data := .fields #[.int lo t, .int hi u, .int 1 v] }).objs.size, [(s.heap.push { cls := .type "range", data := .fields #[.int lo t, .int hi u, .int 1 v] }).objs.size], _, _, H, rfl,
    I1.kept (t' := tk) fun b o e => Heap.get?_push_of_some _ e, turn_range _ lo (hi - lo).toNat, ?_, fun b hb => ?_, q⟩
  · have e1 : lo + ((0 : Nat) : Int) * 1 = lo := by simp
    have e2 : (((hi - lo).toNat : Nat) : Int) - ((0 : Nat) : Int) = Builtin.Range.rangeSize lo hi 1 := by rw [rangeSize_one]; split <;> omega
    show IsRangeIter _ _ (lo + ((0 : Nat) : Int) * 1) ((((hi - lo).toNat : Nat) : Int) - ((0 : Nat) : Int)) 1
    rw [e1, e2]
    exact Heap.get?_push_size _ rfl
  · have e : b = (s.heap.push { cls := .type "range", data := .fields #[.int lo t, .int hi u, .int 1 v] }).objs.size := by simpa using hb
    subst e
    exact I1.fpOk (Nat.le_refl _) (I1.hok.fresh (Nat.le_refl _))
def iRng1 (ta : TA) : TI := fun σ H R => ta σ H fun vs H1 => ∃ j : Int, vs = [.int j] ∧ -(2 ^ 62) ≤ j ∧ j < 2 ^ 62 ∧ R (Itr 0 j.toNat) H1
def iRng2 (ta : TA) : TI := fun σ H R => ta σ H fun vs H1 => ∃ i j : Int, vs = [.int i, .int j] ∧ (-(2 ^ 62) ≤ i ∧ i < 2 ^ 62 ∧ -(2 ^ 62) ≤ j ∧ j < 2 ^ 62) ∧ R (Itr i (j - i).toNat) H1
theorem pi_range1 {a : Expr} {ta : TA} {p pos : Pos} (hg : Gl X "range") (hm : X.mg "range" = none) (ha : PA X [a] ta) (hs : starEach [a] X.env = [(false, eval a X.env)] := by rfl) : PI X tg (.Call (.Name "range" p) [a] [] pos) (iRng1 ta) := by
  intro pins s σ H R I h
  refine Call_ (ld_blt I hg hm boot_range (PyProof.Rows.callWith_type1 (thn (ha pos pins s σ H _ I h) fun us s1 ⟨vs, H1, I1, r1, q1⟩ => ?_) hs rfl))
  obtain ⟨j, e, q1, q2, q⟩ := q1
  subst e
  cases r1 with
  | cons r rr =>
    cases rr
    obtain ⟨t, rfl⟩ := r
    exact call_range_1 (range_it I1 (by omega) (by omega) q1 q2 (by simpa using q))

/-! ### for -/
/-- W: the invariant by the turn and a measure; N: what the body is to reach -/
def tFor (wi : TI) (g : TG) (tb : TS) : TS := fun D σ H => wi σ H fun J H1 => ∃ W : Nat → Nat → St → Hp → Prop, (∃ m, W 0 m σ H1) ∧ ∀ i m σ H, W i m σ H →
  (J.stop i H ∧ D.nx σ H) ∨ (J.go i H ∧ ∃ N : St → Hp → Prop, (∀ σ' H', N σ' H' → ∃ m', m' < m ∧ W (i + 1) m' σ' H') ∧ ∀ x H', J.yld i H x H' → g x σ H' fun σ2 H2 => tb { D with nx := N, ct := N, bk := D.nx } σ2 H2)
/-- the records at fp as they stand -/
def pinsAt (fp : List Addr) (h : Heap) : List (Addr × Obj) := fp.filterMap fun b => (h.get? b).map fun o => (b, o)
theorem mem_pinsAt {fp : List Addr} {h : Heap} {b : Addr} {o : Obj} (hb : b ∈ fp) (e : h.get? b = some o) : (b, o) ∈ pinsAt fp h := List.mem_filterMap.mpr ⟨b, hb, by rw [e]; rfl⟩
theorem of_pinsAt {fp : List Addr} {h : Heap} {p : Addr × Obj} (hp : p ∈ pinsAt fp h) : p.1 ∈ fp ∧ h.get? p.1 = some p.2 := by
  obtain ⟨b, hb, e⟩ := List.mem_filterMap.mp hp
  cases q : h.get? b with
  | none => rw [q] at e; cases e
  | some o =>
    rw [q] at e
    have e' : (b, o) = p := Option.some.inj e
    subst e'
    exact ⟨hb, q⟩
theorem Inv.pinned {pins : List (Addr × Obj)} {σ : St} {H : Hp} {s : Shared} {fp : List Addr} (I : Inv X pins σ H s) (hf : ∀ b ∈ fp, FpOk X pins H b) (ho : ∀ b ∈ fp, ∃ o, s.heap.get? b = some o ∧ ∀ v, o.data ≠ .cell v) : Inv X (pins ++ pinsAt fp s.heap) σ H s :=
  I.pins_of fun p hp => (List.mem_append.mp hp).elim (fun z => I.pin p (List.mem_append_right _ z)) fun z => by
    obtain ⟨hb, e⟩ := of_pinsAt z
    obtain ⟨f0, f1, f2, _⟩ := hf p.1 hb
    obtain ⟨o, e', d⟩ := ho p.1 hb
    rw [e] at e'; cases e'
    exact ⟨e, f0, f1, f2, d⟩
theorem Inv.unpinned {pins pl : List (Addr × Obj)} {σ : St} {H : Hp} {s : Shared} (I : Inv X (pins ++ pl) σ H s) : Inv X pins σ H s := I.pins_of fun p hp => I.pin p (List.mem_append_right _ (List.mem_append_left _ hp))
theorem ps_for {iter : Expr} {body : List Stmt} {wi : TI} {g : TG} {tb : TS} {pos : Pos} (hp : PassesOwn (model X.prog X.w) X.A X.env X.xe) (hc : X.calm = true) (hi : PI X tg iter wi) (hg : PG X tg g) (hb : PSs X body tb)
    (hs : ∀ x, foldedSetIterable iter X.env x = pure x := by intro _; rfl) : PS X (.For tg iter body [] pos) (tFor wi g tb) := by
  intro pins s σ H D I h
  refine wpAny_For (thn (hi pins s σ H _ I h) fun v s1 h1 => thn h1 fun itv s2 h2 => ?_) hs
  obtain ⟨it, fp, tn, J, H2, e, I2, T, st2, f2, W, ⟨m0, w0⟩, turn⟩ := h2
  subst e
  -- what stays true of the iterator's objects through the loop
  have stat : ∀ {H' : Hp}, (∀ b ∈ fp, H' b = none) → ∀ b ∈ fp, FpOk X pins H' b := fun hn b hb => ⟨hn b hb, (f2 b hb).2⟩
  refine codeAny_forLoop_any (fun n s' => ∃ i σ' H', Inv X pins σ' H' s' ∧ tn i s'.heap ∧ (∀ b ∈ fp, H' b = none) ∧ W i n σ' H') ?_ m0 ⟨0, σ, H2, I2, st2, fun b hb => (f2 b hb).1, w0⟩
  rintro n s3 ⟨i, σ3, H3, I3, st3, fr3, w3⟩
  rcases turn i n σ3 H3 w3 with ⟨stop, qn⟩ | ⟨go, N, hN, step⟩
  · refine wpAny_passesOwn hp (thn (T.done X rfl rfl rfl hc i pins s3 σ3 H3 X.xe I3 (stat fr3) st3 stop) fun r s4 ⟨hr, I4⟩ => ?_)
    subst hr
    exact wpAny_execs_nil ⟨σ3, H3, I4, qn⟩
  · refine wpAny_passesOwn hp (thn (T.item X rfl rfl rfl hc i pins s3 σ3 H3 X.xe I3 (stat fr3) st3 go) fun r s4 ⟨u, hr, h4⟩ => ?_)
    subst hr
    refine wpAny_passesOwn hp (thn h4 fun _ s5 ⟨x, H5, I5, r5, y5, st5, fr5⟩ => ?_)
    have I5' := I5.pinned (stat fr5) (T.obj _ _ st5)
    refine wpAny_passesOwn hp (thn (hg _ s5 σ3 H5 x u _ I5' r5 (step x H5 y5)) fun _ s6 ⟨σ6, H6, I6, q6⟩ => ?_)
    refine wpAny_passesOwn hp (thn (hb _ s6 σ6 H6 _ I6 q6) fun f s7 q7 => ?_)
    have again : ∀ {σ7 : St} {H7 : Hp}, Inv X (pins ++ pinsAt fp s5.heap) σ7 H7 s7 → N σ7 H7 → ∃ m, m < n ∧ ∃ i σ' H', Inv X pins σ' H' s7 ∧ tn i s7.heap ∧ (∀ b ∈ fp, H' b = none) ∧ W i m σ' H' := fun {σ7 H7} I7 n7 => by
      obtain ⟨m', hm, w7⟩ := hN σ7 H7 n7
      refine ⟨m', hm, i + 1, σ7, H7, I7.unpinned, T.keep _ _ _ st5 fun b hb o e => (I7.pin (b, o) (List.mem_append_right _ (List.mem_append_right _ (mem_pinsAt hb e)))).1, fun b hb => ?_, w7⟩
      obtain ⟨o, e, d⟩ := T.obj _ _ st5 b hb
      exact (I7.pin (b, o) (List.mem_append_right _ (List.mem_append_right _ (mem_pinsAt hb e)))).2.1
    cases f with
    | next => obtain ⟨σ7, H7, I7, n7⟩ := q7; exact again I7 n7
    | cont => obtain ⟨σ7, H7, I7, n7⟩ := q7; exact again I7 n7
    | brk => obtain ⟨σ7, H7, I7, q7⟩ := q7; exact ⟨σ7, H7, I7.unpinned, q7⟩
    | ret v => obtain ⟨x7, σ7, H7, I7, r7, q7⟩ := q7; exact ⟨x7, σ7, H7, I7.unpinned, r7, q7⟩
end

/-! ### the forms one uses -/
/-- over a list that the body leaves as it is -/
theorem for_list {K : PySem.W.Frag} {a : Addr} {xs : List V} {g : TG} {tb : TS} {D : Ends} {σ : St} {H : Hp} (Pv : Nat → St → Hp → Prop) (h0 : Pv 0 σ H) (hl : ∀ i σ H, i ≤ xs.length → Pv i σ H → SqL K H a xs)
    (hs : ∀ i x σ H, xs[i]? = some x → Pv i σ H → g x σ H fun σ2 H2 => tb { D with nx := Pv (i + 1), ct := Pv (i + 1), bk := D.nx } σ2 H2) (hd : ∀ σ H, Pv xs.length σ H → D.nx σ H) :
    ∃ W : Nat → Nat → St → Hp → Prop, (∃ m, W 0 m σ H) ∧ ∀ i m σ H, W i m σ H →
      ((Itl K a).stop i H ∧ D.nx σ H) ∨ ((Itl K a).go i H ∧ ∃ N : St → Hp → Prop, (∀ σ' H', N σ' H' → ∃ m', m' < m ∧ W (i + 1) m' σ' H') ∧ ∀ x H', (Itl K a).yld i H x H' → g x σ H' fun σ2 H2 => tb { D with nx := N, ct := N, bk := D.nx } σ2 H2) := by
  refine ⟨fun i m σ H => m = xs.length - i ∧ i ≤ xs.length ∧ Pv i σ H, ⟨xs.length, by simp, Nat.zero_le _, h0⟩, ?_⟩
  rintro i m σ H ⟨rfl, hi, p⟩
  have q := hl i σ H hi p
  by_cases hlt : i < xs.length
  · refine .inr ⟨⟨xs, xs[i], q, by simp [hlt]⟩, Pv (i + 1), fun σ' H' p' => ⟨xs.length - (i + 1), by omega, rfl, hlt, p'⟩, fun x H' y => ?_⟩
    obtain ⟨e, y⟩ := y
    subst e
    exact hs i x σ _ (y xs q) p
  · have e : i = xs.length := by omega
    subst e
    exact .inl ⟨⟨xs, q, Nat.le_refl _⟩, hd σ H p⟩
theorem for_tup {K : PySem.W.Frag} {a : Addr} {xs : List V} {g : TG} {tb : TS} {D : Ends} {σ : St} {H : Hp} (Pv : Nat → St → Hp → Prop) (h0 : Pv 0 σ H) (hl : ∀ i σ H, i ≤ xs.length → Pv i σ H → SqT K H a xs)
    (hs : ∀ i x σ H, xs[i]? = some x → Pv i σ H → g x σ H fun σ2 H2 => tb { D with nx := Pv (i + 1), ct := Pv (i + 1), bk := D.nx } σ2 H2) (hd : ∀ σ H, Pv xs.length σ H → D.nx σ H) :
    ∃ W : Nat → Nat → St → Hp → Prop, (∃ m, W 0 m σ H) ∧ ∀ i m σ H, W i m σ H →
      ((Itt K a).stop i H ∧ D.nx σ H) ∨ ((Itt K a).go i H ∧ ∃ N : St → Hp → Prop, (∀ σ' H', N σ' H' → ∃ m', m' < m ∧ W (i + 1) m' σ' H') ∧ ∀ x H', (Itt K a).yld i H x H' → g x σ H' fun σ2 H2 => tb { D with nx := N, ct := N, bk := D.nx } σ2 H2) := by
  refine ⟨fun i m σ H => m = xs.length - i ∧ i ≤ xs.length ∧ Pv i σ H, ⟨xs.length, by simp, Nat.zero_le _, h0⟩, ?_⟩
  rintro i m σ H ⟨rfl, hi, p⟩
  have q := hl i σ H hi p
  by_cases hlt : i < xs.length
  · refine .inr ⟨⟨xs, xs[i], q, by simp [hlt]⟩, Pv (i + 1), fun σ' H' p' => ⟨xs.length - (i + 1), by omega, rfl, hlt, p'⟩, fun x H' y => ?_⟩
    obtain ⟨e, y⟩ := y
    subst e
    exact hs i x σ _ (y xs q) p
  · have e : i = xs.length := by omega
    subst e
    exact .inl ⟨⟨xs, q, Nat.le_refl _⟩, hd σ H p⟩
theorem for_range {lo : Int} {n : Nat} {g : TG} {tb : TS} {D : Ends} {σ : St} {H : Hp} (Pv : Nat → St → Hp → Prop) (h0 : Pv 0 σ H)
    (hs : ∀ i σ H, i < n → Pv i σ H → g (.int (lo + i)) σ H fun σ2 H2 => tb { D with nx := Pv (i + 1), ct := Pv (i + 1), bk := D.nx } σ2 H2) (hd : ∀ σ H, Pv n σ H → D.nx σ H) :
    ∃ W : Nat → Nat → St → Hp → Prop, (∃ m, W 0 m σ H) ∧ ∀ i m σ H, W i m σ H →
      ((Itr lo n).stop i H ∧ D.nx σ H) ∨ ((Itr lo n).go i H ∧ ∃ N : St → Hp → Prop, (∀ σ' H', N σ' H' → ∃ m', m' < m ∧ W (i + 1) m' σ' H') ∧ ∀ x H', (Itr lo n).yld i H x H' → g x σ H' fun σ2 H2 => tb { D with nx := N, ct := N, bk := D.nx } σ2 H2) := by
  refine ⟨fun i m σ H => m = n - i ∧ i ≤ n ∧ Pv i σ H, ⟨n, by simp, Nat.zero_le _, h0⟩, ?_⟩
  rintro i m σ H ⟨rfl, hi, p⟩
  by_cases hlt : i < n
  · refine .inr ⟨hlt, Pv (i + 1), fun σ' H' p' => ⟨n - (i + 1), by omega, rfl, hlt, p'⟩, fun x H' y => ?_⟩
    obtain ⟨e, y⟩ := y
    subst e y
    exact hs i σ _ hlt p
  · have e : i = n := by omega
    subst e
    exact .inl ⟨Nat.le_refl _, hd σ H p⟩
end L2

namespace L2
open PySem PySem.Spec PyProof.Rows

abbrev R2 := V → V → Hp → VK → Prop
/-- a two-place operation on values: f is binaryOp op, inplaceOp op or compareOp op -/
def OpR (X : Cx) (f : Value → Value → Sem Value) (r : R2) : Prop :=
  ∀ (pins : List (Addr × Obj)) (s : Shared) (σ : St) (H : Hp) (x y : V) (v u : Value) (Q : VK), Inv X pins σ H s → RelV x v → RelV y u → r x y H Q →
    wpAny (model X.prog X.w) X.A (f v u) (EP X pins σ Q) X.xe s
/-- a one-place operation -/
def UnR (X : Cx) (f : Value → Sem Value) (r : V → Hp → VK → Prop) : Prop :=
  ∀ (pins : List (Addr × Obj)) (s : Shared) (σ : St) (H : Hp) (x : V) (v : Value) (Q : VK), Inv X pins σ H s → RelV x v → r x H Q →
    wpAny (model X.prog X.w) X.A (f v) (EP X pins σ Q) X.xe s
/-- a call of a value that is known (a builtin, a type) with values -/
def CallR (X : Cx) (f : Value) (r : List V → Hp → VK → Prop) : Prop :=
  ∀ (pins : List (Addr × Obj)) (s : Shared) (σ : St) (H : Hp) (xs : List V) (us : List Value) (Q : VK), Inv X pins σ H s → Vals xs us → r xs H Q →
    wpAny (model X.prog X.w) X.A (call f us) (EP X pins σ Q) X.xe s
/-- a value's truth -/
def TruR (X : Cx) (r : V → Hp → (Bool → Hp → Prop) → Prop) : Prop :=
  ∀ (pins : List (Addr × Obj)) (s : Shared) (σ : St) (H : Hp) (x : V) (v : Value) (Q : Bool → Hp → Prop), Inv X pins σ H s → RelV x v → r x H Q →
    wpAny (model X.prog X.w) X.A (truthy v) (TP X pins σ Q) X.xe s

def tOp (r : R2) (ta tb : TE) : TE := fun σ H Q => ta σ H fun x H1 => tb σ H1 fun y H2 => r x y H2 Q
def tUn (r : V → Hp → VK → Prop) (ta : TE) : TE := fun σ H Q => ta σ H fun x H1 => r x H1 Q
/-- ints in, under C, and a value out -/
def rI (C : Int → Int → Prop) (g : Int → Int → V) : R2 := fun x y H Q => ∃ i j, x = .int i ∧ y = .int j ∧ C i j ∧ Q (g i j) H
def rI0 (g : Int → Int → V) : R2 := fun x y H Q => ∃ i j, x = .int i ∧ y = .int j ∧ Q (g i j) H
def rU (g : Int → V) : V → Hp → VK → Prop := fun x H Q => ∃ i, x = .int i ∧ Q (g i) H

section
variable {X : Cx} {a b c : Expr} {ta tb tc : TE} {pos : Pos}

theorem binT (ha : PE X a ta) (hb : PE X b tb) {pins : List (Addr × Obj)} {s : Shared} {σ : St} {H : Hp} {R : V → V → Hp → Prop} (I : Inv X pins σ H s)
    (h : ta σ H fun x H1 => tb σ H1 fun y H2 => R x y H2) {Q : Value → Shared → Prop} {f : Value → Value → Sem Value}
    (hf : ∀ v u s2 x y H2, Inv X pins σ H2 s2 → RelV x v → RelV y u → R x y H2 → wpAny (model X.prog X.w) X.A (f v u) Q X.xe s2) :
    wpAny (model X.prog X.w) X.A (eval a X.env) (fun v s₁ => wpAny (model X.prog X.w) X.A (eval b X.env) (fun u s₂ => wpAny (model X.prog X.w) X.A (f v u) Q X.xe s₂) X.xe s₁) X.xe s := by
  refine thn (ha pins s σ H _ I h) fun v s1 ⟨x, H1, I1, r1, q1⟩ => ?_
  refine thn (hb pins s1 σ H1 _ I1 q1) fun u s2 ⟨y, H2, I2, r2, q2⟩ => ?_
  exact hf v u s2 x y H2 I2 r1 r2 q2

theorem pe_op {op : Operator} {r : R2} (ho : OpR X (binaryOp op) r) (ha : PE X a ta) (hb : PE X b tb) : PE X (.BinOp a op b pos) (tOp r ta tb) := by
  intro pins s σ H Q I h
  exact wpAny_BinOp (binT ha hb I h fun v u s2 x y H2 I2 rx ry q => ho pins s2 σ H2 x y v u Q I2 rx ry q)
theorem pe_un {op : UnaryOp} {r : V → Hp → VK → Prop} (ho : UnR X (unaryOp op) r) (ha : PE X a ta) : PE X (.UnaryOp op a pos) (tUn r ta) := by
  intro pins s σ H Q I h
  exact UnaryOp_ (thn (ha pins s σ H _ I h) fun v s1 ⟨x, H1, I1, r1, q1⟩ => ho pins s1 σ H1 x v Q I1 r1 q1)

/-! ### ints -/
theorem opI {f : Value → Value → Sem Value} {C : Int → Int → Prop} {g : Int → Int → Int}
    (rule : ∀ (i j : Int) (t u : Tok) (s : Shared) (Q : Value → Shared → Prop) (E : Value → Shared → Prop), C i j → Q (.int (g i j) s.toks) { s with toks := s.toks + 1 } → wpAny (model X.prog X.w) X.A (f (.int i t) (.int j u)) Q E s) :
    OpR X f (rI C fun i j => .int (g i j)) := by
  intro pins s σ H x y v u Q I rx ry h
  obtain ⟨i, j, rfl, rfl, hc, q⟩ := h
  obtain ⟨t, rfl⟩ := rx
  obtain ⟨t', rfl⟩ := ry
  exact rule i j t t' s _ _ hc ⟨.int (g i j), H, I.tok _, ⟨_, rfl⟩, q⟩
theorem opI0 {f : Value → Value → Sem Value} {g : Int → Int → Int}
    (rule : ∀ (i j : Int) (t u : Tok) (s : Shared) (Q : Value → Shared → Prop) (E : Value → Shared → Prop), Q (.int (g i j) s.toks) { s with toks := s.toks + 1 } → wpAny (model X.prog X.w) X.A (f (.int i t) (.int j u)) Q E s) :
    OpR X f (rI0 fun i j => .int (g i j)) := by
  intro pins s σ H x y v u Q I rx ry h
  obtain ⟨i, j, rfl, rfl, q⟩ := h
  obtain ⟨t, rfl⟩ := rx
  obtain ⟨t', rfl⟩ := ry
  exact rule i j t t' s _ _ ⟨.int (g i j), H, I.tok _, ⟨_, rfl⟩, q⟩
theorem opB0 {f : Value → Value → Sem Value} {g : Int → Int → Bool}
    (rule : ∀ (i j : Int) (t u : Tok) (s : Shared) (Q : Value → Shared → Prop) (E : Value → Shared → Prop), Q (.bool (g i j)) s → wpAny (model X.prog X.w) X.A (f (.int i t) (.int j u)) Q E s) :
    OpR X f (rI0 fun i j => .bl (g i j)) := by
  intro pins s σ H x y v u Q I rx ry h
  obtain ⟨i, j, rfl, rfl, q⟩ := h
  obtain ⟨t, rfl⟩ := rx
  obtain ⟨t', rfl⟩ := ry
  exact rule i j t t' s _ _ ⟨.bl (g i j), H, I, rfl, q⟩

def CDiv (i j : Int) : Prop := 0 < j ∧ j < 1073741824
def CDivN (i j : Int) : Prop := j ≠ 0 ∧ j.natAbs < 1073741824
def CPow (i j : Int) : Prop := 0 ≤ j ∧ j ≤ 1000000 ∧ i.natAbs < 2 ^ 64
def CMul (i j : Int) : Prop := (-(2 ^ 64) < i ∧ i < 2 ^ 64) ∨ (-(2 ^ 64) < j ∧ j < 2 ^ 64)
theorem CMul.ok {i j : Int} (h : CMul i j) : IntMulOk i j := by
  rcases h with ⟨h1, h2⟩ | ⟨h1, h2⟩
  · exact .of_left (intBits_le_64 h1 h2)
  · exact .of_right (intBits_le_64 h1 h2)

theorem op_add : OpR X (binaryOp .Add) (rI0 fun i j => .int (i + j)) := opI0 fun _ _ _ _ _ _ _ q => add_int q
theorem op_sub : OpR X (binaryOp .Sub) (rI0 fun i j => .int (i - j)) := opI0 fun _ _ _ _ _ _ _ q => sub_int q
theorem op_mul : OpR X (binaryOp .Mult) (rI CMul fun i j => .int (i * j)) := opI fun _ _ _ _ _ _ _ hc q => mul_int q hc.ok
/-- // by a positive divisor -/
theorem op_fdiv : OpR X (binaryOp .FloorDiv) (rI CDiv fun i j => .int (i / j)) := opI fun i j _ _ _ _ _ hc q => by
  have h1 : (0 : Int) < j := hc.1
  have h2 : j < 1073741824 := hc.2
  exact floordiv_int (by omega) (by rw [Int.fdiv_eq_ediv_of_nonneg i (by omega)]; exact q) (.inl (PyProof.noPylong_small (by omega)))
/-- % by a positive divisor of any size -/
theorem op_mod : OpR X (binaryOp .Mod) (rI (fun _ j => 0 < j) fun i j => .int (i % j)) := opI fun i j _ _ _ _ _ hc q => by
  have h1 : (0 : Int) < j := hc
  exact mod_int' (by omega) (by rw [Int.fmod_eq_emod_of_nonneg i (by omega)]; exact q)
theorem op_pow : OpR X (binaryOp .Pow) (rI CPow fun i j => .int (i ^ j.toNat)) := opI fun _ _ _ _ _ _ _ hc q => pow_int_small hc.1 hc.2.1 hc.2.2 q


theorem unI {f : Value → Sem Value} {g : Int → Int}
    (rule : ∀ (i : Int) (t : Tok) (s : Shared) (Q : Value → Shared → Prop) (E : Value → Shared → Prop), Q (.int (g i) s.toks) { s with toks := s.toks + 1 } → wpAny (model X.prog X.w) X.A (f (.int i t)) Q E s) :
    UnR X f (rU fun i => .int (g i)) := by
  intro pins s σ H x v Q I rx h
  obtain ⟨i, rfl, q⟩ := h
  obtain ⟨t, rfl⟩ := rx
  exact rule i t s _ _ ⟨.int (g i), H, I.tok _, ⟨_, rfl⟩, q⟩
theorem un_neg : UnR X (unaryOp .USub) (rU fun i => .int (-i)) := unI fun _ _ _ _ _ q => neg_int q

/-! ### bools among ints: n += (a < b) -/
end

/-! ### comparisons -/
/-- the scalars that == tells apart as data does -/
def scal : V → V → Bool
  | .non, .non => true | .non, .int _ => true | .int _, .non => true | .non, .bl _ => true | .bl _, .non => true | .non, .str _ => true | .str _, .non => true
  | .int _, .int _ => true | .bl _, .bl _ => true | .str _, .str _ => true | .byt _, .byt _ => true
  | .int _, .str _ => true | .str _, .int _ => true | .bl _, .str _ => true | .str _, .bl _ => true
  | _, _ => false
def rEq : R2 := fun x y H Q => scal x y = true ∧ Q (.bl (decide (x = y))) H
def rNe : R2 := fun x y H Q => scal x y = true ∧ Q (.bl (!decide (x = y))) H

theorem dec_int {i j : Int} : decide (V.int i = V.int j) = (i == j) := by
  rw [Bool.eq_iff_iff]
  simp
theorem dec_bl {i j : Bool} : decide (V.bl i = V.bl j) = (i == j) := by
  rw [Bool.eq_iff_iff]
  simp
theorem dec_str {i j : Str} : decide (V.str i = V.str j) = (i == j) := by
  rw [Bool.eq_iff_iff]
  simp
theorem dec_byt {i j : Array UInt8} : decide (V.byt i = V.byt j) = (i.toList == j.toList) := by
  rw [Bool.eq_iff_iff]
  cases i
  cases j
  simp

section
variable {X : Cx} {a b c : Expr} {ta tb tc : TE} {pos : Pos}
theorem fin_bl {pins : List (Addr × Obj)} {σ : St} {H : Hp} {s : Shared} {Q : VK} {k k' : Bool} (I : Inv X pins σ H s) (q : Q (.bl k) H) (e : k = k') : EP X pins σ Q (.bool k') s := by
  subst e
  exact ⟨.bl k, H, I, rfl, q⟩
theorem op_eq : OpR X (compareOp .Eq) rEq := by
  intro pins s σ H x y v u Q I rx ry h
  obtain ⟨hs, q⟩ := h
  cases x with
  | non =>
    cases rx
    cases y with
    | non => cases ry; exact PySem.EqNone.eq_none_none (fin_bl I q (by simp))
    | bl j => cases ry; exact PySem.EqNone.eq_none_bool (fin_bl I q (by simp))
    | int j => obtain ⟨t', rfl⟩ := ry; exact PySem.EqNone.eq_none_int (fin_bl I q (by simp))
    | str j => obtain ⟨t', rfl⟩ := ry; exact PySem.EqNone.eq_none_str (fin_bl I q (by simp))
    | _ => exact absurd (show false = true from hs) Bool.false_ne_true
  | bl i =>
    cases rx
    cases y with
    | non => cases ry; exact PySem.EqNone.eq_bool_none (fin_bl I q (by simp))
    | bl j => cases ry; exact eq_bool (fin_bl I q dec_bl)
    | str j => obtain ⟨t', rfl⟩ := ry; exact PySem.EqMixed.eq_bool_str (fin_bl I q (by simp))
    | _ => exact absurd (show false = true from hs) Bool.false_ne_true
  | int i =>
    obtain ⟨t, rfl⟩ := rx
    cases y with
    | non => cases ry; exact PySem.EqNone.eq_int_none (fin_bl I q (by simp))
    | int j => obtain ⟨t', rfl⟩ := ry; exact eq_int (fin_bl I q dec_int)
    | str j => obtain ⟨t', rfl⟩ := ry; exact PySem.EqMixed.eq_int_str (fin_bl I q (by simp))
    | _ => exact absurd (show false = true from hs) Bool.false_ne_true
  | str i =>
    obtain ⟨t, rfl⟩ := rx
    cases y with
    | non => cases ry; exact PySem.EqNone.eq_str_none (fin_bl I q (by simp))
    | bl j => cases ry; exact PySem.EqMixed.eq_str_bool (fin_bl I q (by simp))
    | int j => obtain ⟨t', rfl⟩ := ry; exact PySem.EqMixed.eq_str_int (fin_bl I q (by simp))
    | str j => obtain ⟨t', rfl⟩ := ry; exact eq_str (fin_bl I q dec_str)
    | _ => exact absurd (show false = true from hs) Bool.false_ne_true
  | byt i =>
    obtain ⟨t, rfl⟩ := rx
    cases y with
    | byt j => obtain ⟨t', rfl⟩ := ry; exact PySem.W.eq_bytes (fin_bl I q dec_byt)
    | _ => exact absurd (show false = true from hs) Bool.false_ne_true
  | _ => cases y <;> exact absurd (show false = true from hs) Bool.false_ne_true
theorem op_ne : OpR X (compareOp .NotEq) rNe := by
  intro pins s σ H x y v u Q I rx ry h
  obtain ⟨hs, q⟩ := h
  cases x with
  | non =>
    cases rx
    cases y with
    | non => cases ry; exact PySem.EqNone.ne_none_none (fin_bl I q (by simp))
    | bl j => cases ry; exact PySem.EqNone.ne_none_bool (fin_bl I q (by simp))
    | int j => obtain ⟨t', rfl⟩ := ry; exact PySem.EqNone.ne_none_int (fin_bl I q (by simp))
    | str j => obtain ⟨t', rfl⟩ := ry; exact PySem.EqNone.ne_none_str (fin_bl I q (by simp))
    | _ => exact absurd (show false = true from hs) Bool.false_ne_true
  | bl i =>
    cases rx
    cases y with
    | non => cases ry; exact PySem.EqNone.ne_bool_none (fin_bl I q (by simp))
    | bl j => cases ry; exact ne_bool (fin_bl I q (congrArg not dec_bl))
    | str j => obtain ⟨t', rfl⟩ := ry; exact PySem.EqMixed.ne_bool_str (fin_bl I q (by simp))
    | _ => exact absurd (show false = true from hs) Bool.false_ne_true
  | int i =>
    obtain ⟨t, rfl⟩ := rx
    cases y with
    | non => cases ry; exact PySem.EqNone.ne_int_none (fin_bl I q (by simp))
    | int j => obtain ⟨t', rfl⟩ := ry; exact ne_int (fin_bl I q (congrArg not dec_int))
    | str j => obtain ⟨t', rfl⟩ := ry; exact PySem.EqMixed.ne_int_str (fin_bl I q (by simp))
    | _ => exact absurd (show false = true from hs) Bool.false_ne_true
  | str i =>
    obtain ⟨t, rfl⟩ := rx
    cases y with
    | non => cases ry; exact PySem.EqNone.ne_str_none (fin_bl I q (by simp))
    | bl j => cases ry; exact PySem.EqMixed.ne_str_bool (fin_bl I q (by simp))
    | int j => obtain ⟨t', rfl⟩ := ry; exact PySem.EqMixed.ne_str_int (fin_bl I q (by simp))
    | str j => obtain ⟨t', rfl⟩ := ry; exact ne_str (fin_bl I q (congrArg not dec_str))
    | _ => exact absurd (show false = true from hs) Bool.false_ne_true
  | byt i =>
    obtain ⟨t, rfl⟩ := rx
    cases y with
    | byt j => obtain ⟨t', rfl⟩ := ry; exact PySem.W.ne_bytes (fin_bl I q (congrArg not dec_byt))
    | _ => exact absurd (show false = true from hs) Bool.false_ne_true
  | _ => cases y <;> exact absurd (show false = true from hs) Bool.false_ne_true

theorem op_lt : OpR X (compareOp .Lt) (rI0 fun i j => .bl (decide (i < j))) := opB0 fun _ _ _ _ _ _ _ q => lt_int q
theorem op_gt : OpR X (compareOp .Gt) (rI0 fun i j => .bl (decide (j < i))) := opB0 fun _ _ _ _ _ _ _ q => gt_int q
theorem op_ge : OpR X (compareOp .GtE) (rI0 fun i j => .bl (decide (j ≤ i))) := opB0 fun _ _ _ _ _ _ _ q => ge_int q
/-- the one string within the other -/
theorem op_in_str : OpR X (compareOp .In) (fun x y H Q => ∃ i j, x = .str i ∧ y = .str j ∧ Q (.bl (!(Builtin.Str.occurrences j i 0 j.length 1).isEmpty)) H) := by
  intro pins s σ H x y v u Q I rx ry h
  obtain ⟨i, j, rfl, rfl, q⟩ := h
  obtain ⟨t, rfl⟩ := rx
  obtain ⟨t', rfl⟩ := ry
  exact in_str (fin_bl I q rfl)


/-- is, is not of two objects that are tracked lists or instances -/
def isObj : HO → Bool
  | .lst _ => true
  | .ins _ _ _ => true
  | _ => false


theorem nomark (b : Expr) {op : CmpOp} (h : op ≠ .In := by decide) (h2 : op ≠ .NotIn := by decide) : behindInMarks op b = false := by
  have e1 : (op == CmpOp.In) = false := by cases op <;> first | rfl | exact absurd rfl h
  have e2 : (op == CmpOp.NotIn) = false := by cases op <;> first | rfl | exact absurd rfl h2
  cases b <;> simp [behindInMarks, e1, e2]
/-- a comparison as a value; hm: nomark b, or (for in, not in) by with_unfolding_all rfl -/
theorem pe_cmpR {op : CmpOp} {r : R2} (ho : OpR X (compareOp op) r) (ha : PE X a ta) (hb : PE X b tb) (hm : behindInMarks op b = false) : PE X (.Compare a [op] [b] pos) (tOp r ta tb) := by
  intro pins s σ H Q I h
  exact wpAny_Compare1 (binT ha hb I h fun v u s2 x y H2 I2 rx ry q => ho pins s2 σ H2 x y v u Q I2 rx ry q) hm
/-- a reading of a value as a test -/
def tTest (t : TE) : TT := fun σ H Q => t σ H fun x H' => ∃ k, x = .bl k ∧ Q k H'
theorem pt_cmpR {op : CmpOp} {r : R2} (ho : OpR X (compareOp op) r) (ha : PE X a ta) (hb : PE X b tb) (hm : behindInMarks op b = false) : PT X (.Compare a [op] [b] pos) (tTest (tOp r ta tb)) := by
  intro pins s σ H Q I h
  refine wpAny_isTrue_Compare1 (thn (ha pins s σ H _ I h) fun v s1 ⟨x, H1, I1, r1, q1⟩ => thn (hb pins s1 σ H1 _ I1 q1) fun u s2 ⟨y, H2, I2, r2, q2⟩ =>
    thn (ho pins s2 σ H2 x y v u _ I2 r1 r2 q2) fun c s3 ⟨z, H3, I3, r3, k, e, q3⟩ => ?_) hm
  subst e
  cases r3
  exact wpAny_truthy_bool ⟨H3, I3, q3⟩
/-- a op1 b op2 c -/
def tChain (r r' : R2) (ta tb tc : TE) : TE := fun σ H Q => ta σ H fun x H1 => tb σ H1 fun y H2 => r x y H2 fun z H3 => ∃ k, z = .bl k ∧
  (if k = true then tc σ H3 fun w' H4 => r' y w' H4 Q else Q (.bl false) H3)

/-! ### truth -/
/-- a value's truth by the abstract heap -/
def TruV (K : PySem.W.Frag) (x : V) (H : Hp) (k : Bool) : Prop :=
  match x with
  | .non => k = false
  | .bl b => k = b
  | .int i => k = (i != 0)
  | .str y => y.length ≤ sizeLine ∧ k = ((y.length : Int) != 0)
  | .byt y => y.size ≤ sizeLine ∧ k = ((y.size : Int) != 0)
  | .ref p => (∃ xs, SqL K H p xs ∧ k = !xs.isEmpty) ∨ (∃ xs, SqT K H p xs ∧ k = !xs.isEmpty) ∨ ∃ kvs, H p = some (.dK kvs) ∧ k = !kvs.isEmpty
  | _ => False
theorem isEmpty_kv {κ : Type} {kvs : List (κ × V)} {vs : List (κ × Value)} (r : KV kvs vs) : (!vs.isEmpty) = !kvs.isEmpty := by
  cases r <;> rfl
theorem isEmpty_of {xs : List V} {its : List Value} (r : Vals xs its) : (!its.toArray.isEmpty) = !xs.isEmpty := by
  cases r <;> simp
theorem line63 : (sizeLine : Nat) < 2 ^ 63 := by rw [sizeLine_eq]; decide
theorem tru_ok : TruR X (fun x H Q => ∃ k, TruV X.K x H k ∧ Q k H) := by
  intro pins s σ H x v Q I rx h
  obtain ⟨k, e, q⟩ := h
  have hl := line63
  have hs : sizeLine = 16777216 := sizeLine_eq
  cases x with
  | non =>
    cases rx
    have e' : k = false := e
    subst e'
    exact truthy_none ⟨H, I, q⟩
  | bl b =>
    cases rx
    have e' : k = b := e
    subst e'
    exact wpAny_truthy_bool ⟨H, I, q⟩
  | int i =>
    obtain ⟨t, rfl⟩ := rx
    have e' : k = (i != 0) := e
    subst e'
    exact PySem.P.truthy_int ⟨H, I, q⟩
  | str y =>
    obtain ⟨t, rfl⟩ := rx
    obtain ⟨hy, e'⟩ : y.length ≤ sizeLine ∧ k = ((y.length : Int) != 0) := e
    subst e'
    exact PySem.P.truthy_str (by omega) ⟨H, I.tok _, q⟩
  | byt y =>
    obtain ⟨t, rfl⟩ := rx
    obtain ⟨hy, e'⟩ : y.size ≤ sizeLine ∧ k = ((y.size : Int) != 0) := e
    subst e'
    exact PySem.W.truthy_bytes (by omega) ⟨H, I.tok _, q⟩
  | ref p =>
    cases rx
    have e' : (∃ xs, SqL X.K H p xs ∧ k = !xs.isEmpty) ∨ (∃ xs, SqT X.K H p xs ∧ k = !xs.isEmpty) ∨ ∃ kvs, H p = some (.dK kvs) ∧ k = !kvs.isEmpty := e
    rcases e' with ⟨xs, hx, e'⟩ | ⟨xs, hx, e'⟩ | ⟨kvs, hx, e'⟩
    · subst e'
      obtain ⟨its, r, pl, hz⟩ := I.list hx
      have hlen := r.length
      exact wpAny_truthy_list pl.isList (by simp only [List.size_toArray]; omega) ⟨H, I.tok _, by rw [isEmpty_of r]; exact q⟩
    · subst e'
      obtain ⟨its, r, pl, hz⟩ := I.tuple hx
      have hlen := r.length
      exact truthy_tuple pl (by simp only [List.size_toArray]; omega) ⟨H, I.tok _, by rw [isEmpty_of r]; exact q⟩
    · subst e'
      obtain ⟨hz, hS, vs, r, m⟩ : kvs.length ≤ sizeLine ∧ (p == sysModules) = false ∧ ∃ vs, KV kvs vs ∧ s.heap.DictOf (mixKind X.prog X.w) p vs := I.hok p _ hx
      have hlen : kvs.length = vs.length := Paired.length r
      exact wpAny_truthy_dict hS m (by omega) ⟨H, I.tok _, by rw [isEmpty_kv r]; exact q⟩
  | _ => exact (show False from e).elim
/-- any expression whose test is its value's truth (a name, a call, a subscript, a field ..: he by fun _ => rfl) -/
theorem pt_truth (ha : PE X a ta) (he : ∀ whole, isTrue a X.env whole = (do let v ← whole; standAt a.pos; holding [v] (truthy v))) :
    PT X a (fun σ H Q => ta σ H fun x H' => ∃ k, TruV X.K x H' k ∧ Q k H') := by
  intro pins s σ H Q I h
  exact isTrue_plain (thn (ha pins s σ H _ I h) fun v s1 ⟨x, H1, I1, r1, q1⟩ => tru_ok pins s1 σ H1 x v Q I1 r1 q1) (he _)

/-! ### strs and bytes -/
theorem op_add_str : OpR X (binaryOp .Add) (fun x y H Q => ∃ i j, x = .str i ∧ y = .str j ∧ i.length + j.length ≤ sizeLine ∧ Q (.str (i ++ j)) H) := by
  intro pins s σ H x y v u Q I rx ry h
  obtain ⟨i, j, rfl, rfl, hz, q⟩ := h
  obtain ⟨t, rfl⟩ := rx
  obtain ⟨t', rfl⟩ := ry
  exact add_str (fun t' tk => ⟨.str (i ++ j), H, I.tok _, ⟨_, rfl⟩, q⟩) hz

def PlainIxT (b : Expr) : Prop := ∀ o i, subscripted b false o i = operate [o, i] (getItem o i)

/-! ### scalar builtins, by CallR -/
theorem vals1 {x : V} {us : List Value} (r : Vals [x] us) : ∃ u, us = [u] ∧ RelV x u := by
  cases r with
  | cons r1 r2 => cases r2; exact ⟨_, rfl, r1⟩
theorem vals2 {x y : V} {us : List Value} (r : Vals [x, y] us) : ∃ u w', us = [u, w'] ∧ RelV x u ∧ RelV y w' := by
  cases r with
  | cons r1 r2 =>
    cases r2 with
    | cons r3 r4 => cases r4; exact ⟨_, _, rfl, r1, r3⟩
/-- len of a str, a bytes, a list, a tuple -/
def LenV (K : PySem.W.Frag) (x : V) (H : Hp) (n : Nat) : Prop :=
  match x with
  | .str y => y.length ≤ sizeLine ∧ n = y.length
  | .byt y => y.size ≤ sizeLine ∧ n = y.size
  | .ref p => (∃ xs, SqL K H p xs ∧ n = xs.length) ∨ ∃ xs, SqT K H p xs ∧ n = xs.length
  | _ => False
end
end L2

namespace L2
open PySem PySem.Spec PyProof.Rows

/-! ### an instance, its attributes a map -/
structure ObjM (h : Heap) (x dx C : Addr) (mA : Str → Option Value) : Prop where
  obj : h.get? x = some (PySem.W.instObj C dx)
  ns : h.Ns1 dx mA
  ne : dx ≠ x

theorem lookIn_ns {h : Heap} {dx : Addr} {mA : Str → Option Value} (n : h.Ns1 dx mA) : ∃ od, h.get? dx = some od ∧ ∀ name, PySem.W.lookIn name od = some (mA name) := by
  obtain ⟨o, es, ep, ho, hd, hk, _, hm⟩ := n
  refine ⟨o, ho, fun name => ?_⟩
  have e := hm name
  unfold nsFind findBy at e
  rw [← Array.find?_toList] at e
  unfold PySem.W.lookIn
  rw [hd]
  dsimp only
  split
  · rename_i y q
    rw [q] at e
    exact congrArg some e
  · rename_i q
    rw [q] at e
    have a : es.toList.any (·.refKey) = false := by
      rw [List.any_eq_false]
      intro y hy
      obtain ⟨z, t, hkey⟩ := hk y (Array.mem_toList_iff.mp hy)
      simp [DictEntry.refKey, hkey]
    have a' : ¬ es.toList.any (·.refKey) = true := by rw [a]; exact Bool.false_ne_true
    rw [if_neg a']
    exact congrArg some e

theorem ObjM.look {h : Heap} {x dx C : Addr} {mA : Str → Option Value} (I : ObjM h x dx C mA) : ∃ od, PySem.W.InstAt h x (PySem.W.instObj C dx) C (some od) ∧ ∀ name, PySem.W.lookIn name od = some (mA name) :=
  let ⟨od, ho, hl⟩ := lookIn_ns I.ns
  ⟨od, ⟨I.obj, rfl, rfl, ho⟩, hl⟩

section
variable {prog : Program} {w : World} {A : Around} {E : Value → Shared → Prop} {s : Shared} {K : PySem.W.Frag} {x dx C f : Addr} {mA : Str → Option Value} {name : Str} {v : Value}





end

/-! ### the attributes as a list of pairs -/
def putF (f : Str) (v : V) : List (Str × V) → List (Str × V)
  | [] => [(f, v)]
  | (g, x) :: r => if g = f then (g, v) :: r else (g, x) :: putF f v r

theorem RelO.some_of {v : V} {o : Option Value} (r : RelO (some v) o) : ∃ u, o = some u ∧ RelV v u := by
  cases o with
  | none => exact (show False from r).elim
  | some u => exact ⟨u, rfl, r⟩

section
variable {P : Program} {w : World} {H H' : Hp} {h h' : Heap} {a C dx : Addr} {fs fs' : List (Str × V)}
theorem ins_get (hok : HOk P w H h) (e : H a = some (.ins C dx fs)) : ∃ mA, ObjM h a dx C mA ∧ (∀ f, RelO (fs.lookup f) (mA f)) ∧ PySem.Within mA (fs.map (·.1)) ∧ fs.length ≤ 1000 ∧ H dx = some (.own a) := by
  obtain ⟨d, z, ne, ob, mA, n, r, q⟩ := (show ObjOk P w H h a (.ins C dx fs) from hok a _ e)
  exact ⟨mA, ⟨ob, n, ne⟩, r, q, z, d⟩
end

/-! ### what of the text a class must have -/
structure Cls (K : PySem.W.Frag) (C : Addr) : Prop where
  pg : PySem.W.plainGet K C Str.empty = true
  hd : PySem.W.hasDictIn K C = true
  po : PySem.W.plainOver K C = true
  sa : PySem.W.findIn K (.ref C) "__setattr__" = some (some (.builtin "object.__setattr__"))
theorem Cls.get {K : PySem.W.Frag} {C : Addr} (c : Cls K C) (f : Str) : PySem.W.plainGet K C f = true := c.pg
/-- no class of it has the name -/
def NoAttr (K : PySem.W.Frag) (C : Addr) (f : Str) : Prop := PySem.W.findIn K (.ref C) f = some none
/-- a constant of the class -/
structure Con (K : PySem.W.Frag) (C : Addr) (f : Str) (v : V) (u : Value) : Prop where
  at_ : PySem.W.findIn K (.ref C) f = some (some u)
  rel : RelV v u
  get : PySem.W.specialIn K u "__get__" = some none
  cp : PySem.W.copiedNames.contains f = false
/-- a method: a plain def of the class or of one above it -/
structure Meth (K : PySem.W.Frag) (C : Addr) (m : Str) (f : Addr) : Prop where
  at_ : PySem.W.findIn K (.ref C) m = some (some (.ref f))
  fn : PySem.W.isFn K (.ref f) = true
  kp : PySem.W.keepIn K (.ref f) = true

section
variable {X : Cx} {pins : List (Addr × Obj)} {σ : St} {H : Hp} {s : Shared} {a C dx : Addr} {fs : List (Str × V)} {f : Str} {v : V} {A : Around} {E : Value → Shared → Prop}






end

/-! ### readings and rules -/
/-- e.f, an attribute of the instance -/
def tFld (K : PySem.W.Frag) (ta : TE) (f : Str) : TE := fun σ H Q => ta σ H fun x H1 => ∃ a C dx fs v, x = .ref a ∧ H1 a = some (.ins C dx fs) ∧ Cls K C ∧ NoAttr K C f ∧ fs.lookup f = some v ∧ Q v H1
/-- e.f, a constant of the class -/
def tCon (K : PySem.W.Frag) (ta : TE) (f : Str) : TE := fun σ H Q => ta σ H fun x H1 => ∃ a C dx fs v u, x = .ref a ∧ H1 a = some (.ins C dx fs) ∧ Cls K C ∧ Con K C f v u ∧ fs.lookup f = none ∧ Q v H1
/-- e.f = value -/
def sFld (K : PySem.W.Frag) (ta tv : TE) (f : Str) : TS := fun D σ H => tv σ H fun y H1 => ta σ H1 fun x H2 => ∃ a C dx fs, x = .ref a ∧ H2 a = some (.ins C dx fs) ∧ Cls K C ∧ NoAttr K C f ∧ fs.length < 1000 ∧
  D.nx σ (upd H2 a (.ins C dx (putF f y fs)))
/-- an augmented operator on two values -/
def InOp (X : Cx) (op : Operator) (rd : V → V → Hp → VK → Prop) : Prop :=
  ∀ (pins : List (Addr × Obj)) (s : Shared) (σ : St) (H : Hp) (x y : V) (u v : Value) (Q : VK), Inv X pins σ H s → RelV x u → RelV y v → rd x y H Q → wpAny (model X.prog X.w) X.A (inplaceOp op u v) (EP X pins σ Q) X.xe s
/-- e.f op= value -/
def sFldAug (K : PySem.W.Frag) (ta tv : TE) (rd : V → V → Hp → VK → Prop) (f : Str) : TS := fun D σ H => ta σ H fun x H1 => ∃ a C dx fs v, x = .ref a ∧ H1 a = some (.ins C dx fs) ∧ Cls K C ∧ NoAttr K C f ∧ fs.lookup f = some v ∧
  tv σ H1 fun y H2 => rd v y H2 fun z H3 => ∃ dx' fs', H3 a = some (.ins C dx' fs') ∧ fs'.length < 1000 ∧ D.nx σ (upd H3 a (.ins C dx' (putF f z fs')))

section
variable {X : Cx} {o e value : Expr} {f : Str} {pos pos' tpos : Pos} {ta tv : TE}
def rAdd : V → V → Hp → VK → Prop := fun x y H Q => ∃ i j, x = .int i ∧ y = .int j ∧ Q (.int (i + j)) H
def rSub : V → V → Hp → VK → Prop := fun x y H Q => ∃ i j, x = .int i ∧ y = .int j ∧ Q (.int (i - j)) H

end

/-! ### isinstance -/
section
variable {X : Cx} {pins : List (Addr × Obj)} {σ : St} {H : Hp} {s : Shared} {A : Around} {E : Value → Shared → Prop} {Q : Value → Shared → Prop} {c : Value} {b : Bool}
/-- the type of a value, as the fragment's deciders take it; for an instance its class -/
inductive TyOf (K : PySem.W.Frag) (H : Hp) : V → Value → Prop where
  | non : TyOf K H .non (.type "NoneType")
  | bl (x : Bool) : TyOf K H (.bl x) (.type "bool")
  | int (i : Int) : TyOf K H (.int i) (.type "int")
  | str (x : Str) : TyOf K H (.str x) (.type "str")
  | flt (x : UInt64) : TyOf K H (.flt x) (.type "float")
  | lst {a : Addr} {xs : List V} (e : H a = some (.lst xs)) : TyOf K H (.ref a) (.type "list")
  | frz {a : Addr} {o : Obj} {xs : List V} (e : H a = some (.frz o (.lst xs))) : TyOf K H (.ref a) (.type "list")
  | tup {a : Addr} {xs : List V} (e : H a = some (.tup xs)) : TyOf K H (.ref a) (.type "tuple")
  | dK {a : Addr} {kvs : List (Key × V)} (e : H a = some (.dK kvs)) : TyOf K H (.ref a) (.type "dict")
  | dT {a : Addr} {kvs : List (List Key × V)} (e : H a = some (.dT kvs)) : TyOf K H (.ref a) (.type "dict")
  | ins {a C dx : Addr} {fs : List (Str × V)} (e : H a = some (.ins C dx fs)) (cl : Cls K C) (ha : PySem.W.findIn K (.ref C) "__class__" = some (some (.builtin "object.__class__")))
      (hn : PySem.W.specialIn K (.builtin "object.__class__") "__get__" = some (some (.builtin "getset_descriptor.__get__"))) (htk : PySem.W.takesIn K (.builtin "object.__class__") = some true)
      (hm : PySem.W.mroIn K C (.type "object") = some true) : TyOf K H (.ref a) (.ref C)
/-- isinstance(x, c) for one class c, a built-in or an own one: kitOne's answer -/
theorem isinst_ok {x : V} {u t : Value} (I : Inv X pins σ H s) (rx : RelV x u) (ty : TyOf X.K H x t) (e : PySem.W.kitOne X.K t c = some b) (h : ∀ tk, Q (.bool b) { s with toks := tk }) :
    wpAny (model X.prog X.w) A (call (.builtin "isinstance") [u, c]) Q E s := by
  cases ty with
  | non => cases (show u = Value.none from rx); exact PySem.W.kia_one PySem.W.kitx_none I.kIn True.intro e (fun z => nomatch z) h
  | bl y => cases (show u = Value.bool y from rx); exact PySem.W.kia_one PySem.W.kitx_bool I.kIn True.intro e (fun z => nomatch z) h
  | int i => obtain ⟨t, q⟩ := (show ∃ t, u = Value.int i t from rx); cases q; exact PySem.W.kia_one PySem.W.kitx_int I.kIn True.intro e (fun z => nomatch z) h
  | str y => obtain ⟨t, q⟩ := (show ∃ t, u = Value.str y t from rx); cases q; exact PySem.W.kia_one PySem.W.kitx_str I.kIn True.intro e (fun z => nomatch z) h
  | flt y => obtain ⟨t, q⟩ := (show ∃ t, u = Value.float y t from rx); cases q; exact PySem.W.kia_one PySem.W.kitx_float I.kIn True.intro e (fun z => nomatch z) h
  | @lst a xs ea =>
    cases (show u = Value.ref a from rx)
    obtain ⟨_, _, n, _, h1⟩ := (show ObjOk X.prog X.w H s.heap a (.lst xs) from I.hok a _ ea)
    exact PySem.W.kia_one PySem.W.kitx_list I.kIn ⟨_, h1, rfl⟩ e (fun z => nomatch z) h
  | @frz a ob xs ea =>
    cases (show u = Value.ref a from rx)
    obtain ⟨_, _, _, n, _, h1⟩ := (show ObjOk X.prog X.w H s.heap a (.frz ob (.lst xs)) from I.hok a _ ea)
    exact PySem.W.kia_one PySem.W.kitx_list I.kIn ⟨_, h1, rfl⟩ e (fun z => nomatch z) h
  | @tup a xs ea =>
    cases (show u = Value.ref a from rx)
    obtain ⟨_, _, _, p⟩ := (show ObjOk X.prog X.w H s.heap a (.tup xs) from I.hok a _ ea)
    obtain ⟨o, h1, h2, _⟩ := p
    exact PySem.W.kia_one PySem.W.kitx_tuple I.kIn ⟨o, h1, h2⟩ e (fun z => nomatch z) h
  | @dK a kvs ea =>
    cases (show u = Value.ref a from rx)
    obtain ⟨_, _, vs, _, p⟩ := (show ObjOk X.prog X.w H s.heap a (.dK kvs) from I.hok a _ ea)
    obtain ⟨o, es, ep, h1, h2, _⟩ := p
    exact PySem.W.kia_one PySem.W.kitx_dict I.kIn ⟨o, h1, h2.1⟩ e (fun z => nomatch z) h
  | @dT a kvs ea =>
    cases (show u = Value.ref a from rx)
    obtain ⟨_, _, xs, _, o, es, ep, h1, h2, _⟩ := (show ObjOk X.prog X.w H s.heap a (.dT kvs) from I.hok a _ ea)
    exact PySem.W.kia_one PySem.W.kitx_dict I.kIn ⟨o, h1, h2.1⟩ e (fun z => nomatch z) h
  | @ins a C dx fs ea cl ha hn htk hm =>
    cases (show u = Value.ref a from rx)
    obtain ⟨mA, O, _⟩ := ins_get I.hok ea
    obtain ⟨od, J, _⟩ := O.look
    exact PySem.W.kia_one (PySem.W.kitx_own (cl.get _) cl.hd ha hn htk hm) I.kIn J e (fun z => nomatch z) h
end
end L2

namespace L2
open PySem PySem.Spec PyProof.Rows

/-! ### room -/
structure Room (k : Nat) (A : Around) : Prop where
  hd : A.handled = none
  dp : A.depth + 3 * k + 5 < recursionLimit
  un : A.units + 16 * k + 200 < cLine
  gd : A.guards = some []
theorem Room.mono {j k : Nat} {A : Around} (r : Room k A) (h : j ≤ k) : Room j A := ⟨r.hd, by have := r.dp; omega, by have := r.un; omega, r.gd⟩
theorem Room.deeper {k : Nat} {A : Around} (r : Room (k + 1) A) (env : Env) : Room k (A.deeper env) :=
  ⟨r.hd, by have := r.dp; show A.depth + 1 + 3 * k + 5 < _; omega, by have := r.un; show A.units + 3 + 16 * k + 200 < _; omega, r.gd⟩
theorem Room.depth {k : Nat} {A : Around} (r : Room k A) : A.depth < recursionLimit := by have := r.dp; omega
theorem Room.units {k : Nat} {A : Around} (r : Room k A) : A.units + 64 < cLine := by have := r.un; omega

/-! ### argument lists and displays -/
def tNil : TA := fun _ H Q => Q [] H
def tCons (ta : TE) (tr : TA) : TA := fun σ H Q => ta σ H fun x H1 => tr σ H1 fun xs H2 => Q (x :: xs) H2
section
variable {X : Cx} {e : Expr} {es : List Expr} {te : TE} {t : TA} {pos : Pos}
theorem pa_nil : PA X [] tNil := fun _ _ _ _ H Q I h => Calls.spliced_nil ⟨[], H, I, .nil, h⟩
theorem pa_cons (ha : PE X e te) (hr : PA X es t) (hs : starEach (e :: es) X.env = (false, eval e X.env) :: starEach es X.env := by rfl) : PA X (e :: es) (tCons te t) := by
  intro pos pins s σ H Q I h
  rw [hs]
  show wpAny _ _ (spliced ((false, eval e X.env) :: backTo pos (starEach es X.env))) _ _ s
  refine Calls.spliced_cons (thn (ha pins s σ H _ I h) fun u s1 ⟨x, H1, I1, r1, q1⟩ => ?_)
  exact thn (hr pos pins s1 σ H1 _ I1 q1) fun us s2 ⟨xs, H2, I2, r2, q2⟩ => ⟨x :: xs, H2, I2, .cons r1 r2, q2⟩

/-- a tuple, a list of written items -/
def tTup (t : TA) : TE := fun σ H Q => t σ H fun xs H1 => xs.length ≤ sizeLine ∧ ∀ p, H1 p = none → Q (.ref p) (upd H1 p (.tup xs))
def tLst (t : TA) : TE := fun σ H Q => t σ H fun xs H1 => xs.length ≤ sizeLine ∧ ∀ p, H1 p = none → Q (.ref p) (upd H1 p (.lst xs))
theorem pe_tup {x1} (h : PA X es t) : PE X (.Tuple es x1 pos) (tTup t) := by
  intro pins s σ H Q I hq
  refine wpAny_Tuple_spliced (thn (h pos pins s σ H _ I hq) fun us s1 ⟨xs, H1, I1, r, z, q⟩ => ⟨by rw [← r.length]; exact z, ?_⟩)
  have hf : H1 s1.heap.objs.size = none := I1.hok.fresh (Nat.le_refl _)
  refine ⟨.ref s1.heap.objs.size, upd H1 s1.heap.objs.size (.tup xs), I1.laid (t' := s1.toks) (fun b u e => Heap.get?_push_of_some _ e) (Nat.le_refl _) ?_, rfl, q _ hf⟩
  exact ⟨z, us, r, ⟨_, Heap.get?_push_size _ rfl, rfl, _, rfl⟩⟩
theorem pe_lst (h : PA X es t) : PE X (.List es pos) (tLst t) := by
  intro pins s σ H Q I hq
  refine wpAny_List_spliced (thn (h pos pins s σ H _ I hq) fun us s1 ⟨xs, H1, I1, r, z, q⟩ => ⟨by rw [← r.length]; exact z, ?_⟩)
  have hf : H1 s1.heap.objs.size = none := I1.hok.fresh (Nat.le_refl _)
  refine ⟨.ref s1.heap.objs.size, upd H1 s1.heap.objs.size (.lst xs), I1.laid (t' := s1.toks) (fun b u e => Heap.get?_push_of_some _ e) (Nat.le_refl _) ?_, rfl, q _ hf⟩
  exact ⟨z, us, 0, r, Heap.get?_push_size _ rfl⟩
end

/-! ### what a def promises -/
/-- a def's promise: the bound arguments in the parameters' order, the heap, the wanted end, the wanted exception -/
abbrev Sp := List V → Hp → VK → XK → Prop
/-- how an exception lies behind a call (file 08 gives it): the callers' frames, abstract heap and state ahead of the call, the wish, the exception, the state -/
abbrev CXT := List Env → Hp → Shared → XK → Value → Shared → Prop

/-- the state at a call -/
structure Env0 (P : Program) (w : World) (K : PySem.W.Frag) (mg : Str → Option Value) (base : Heap) (A : Around) (outer : List Env) (s : Shared) (H : Hp) : Prop where
  frames : A.frames = some outer
  mod : Mod K mg base
  bs : ∀ b o, base.get? b = some o → s.heap.get? b = some o ∧ H b = none
  bsz : base.objs.size ≤ s.heap.objs.size
  funs : s.heap.FunFrames base outer
  frf : ∀ b ∈ frs outer, H b = none
  hok : HOk P w H s.heap
  bare : AllBare s.gens
/-- a call's end -/
def CE (outer : List Env) (P : Program) (w : World) (H : Hp) (s : Shared) (Q : VK) (u : Value) (s' : Shared) : Prop :=
  ∃ v H', s'.os = s.os ∧ AllBare s'.gens ∧ Un (frs outer) [] H H' s.heap s'.heap ∧ HOk P w H' s'.heap ∧ RelV v u ∧ Q v H'
def CR (CX : CXT) (outer : List Env) (P : Program) (w : World) (H : Hp) (s : Shared) (Q : VK) (E : XK) (r : Result) (s' : Shared) : Prop :=
  match r with
  | .ok (.ret u) => CE outer P w H s Q u s'
  | .ok _ => False
  | .error e => CX outer H s E e s'
structure FnOk (P : Program) (w : World) (K : PySem.W.Frag) (mg : Str → Option Value) (base : Heap) (CX : CXT) (k : Nat) (f : Addr) (fd : FuncData) (ps : List Str) (sp : Sp) : Prop where
  len : ∀ vs H Q E, sp vs H Q E → vs.length = ps.length
  run : ∀ (A : Around) (outer : List Env) (s : Shared) (H : Hp) (args : Args) (us : List Value) (vs : List V) (Q : VK) (E : XK), Room k A → Env0 P w K mg base A outer s H → BindsTo s fd args (ps.zip us) → Vals vs us → sp vs H Q E →
    codeAny (model P w) A (.call (.ref f) args) (CR CX outer P w H s Q E) s


section
variable {X : Cx} {pins : List (Addr × Obj)} {σ : St} {H : Hp} {s s' : Shared}
/-- from a body: what a callee wants -/
theorem Inv.env0 (I : Inv X pins σ H s) : Env0 X.prog X.w X.K X.mg X.base X.A X.stack s H :=
  ⟨I.ok.frames, I.ok.mod, I.bs, Nat.le_trans I.ok.bsz I.sz, I.stack, I.stkFree, I.hok, I.bare⟩
/-- behind a call -/
theorem Inv.after {Q : VK} {u : Value} (I : Inv X pins σ H s) (h : CE X.stack X.prog X.w H s Q u s') : EP X pins σ Q u s' := by
  obtain ⟨v, H', os, bare, un, hok, r, q⟩ := h
  obtain ⟨hh, g, d, t, os'⟩ := s'
  obtain rfl : os' = s.os := os
  exact ⟨v, H', I.call (h' := hh) (g' := g) (d' := d) (t' := t) (ch := []) un hok bare (fun b z => absurd z (by simp)), r, q⟩
end

/-! ### calls -/
/-- f(..): the written arguments, then the defaults dvs; E: what is wanted of an exception -/
def tCall (sp : Sp) (dvs : List V) (E : XK) (t : TA) : TE := fun σ H Q => t σ H fun vs H1 => sp (vs ++ dvs) H1 Q E
/-- o.m(..) of an instance of the class at C -/
def tMeth (C : Addr) (m : Str) (sp : Sp) (dvs : List V) (E : XK) (ta : TE) (t : TA) : TE := fun σ H Q => ta σ H fun x H1 => ∃ a dx fs, x = .ref a ∧ H1 a = some (.ins C dx fs) ∧ fs.lookup m = none ∧
  t σ H1 fun vs H2 => sp (x :: (vs ++ dvs)) H2 Q E
/-- C(..): a new instance and its dict, then __init__ -/
def tMake (C : Addr) (sp : Sp) (dvs : List V) (E : XK) (t : TA) : TE := fun σ H Q => t σ H fun vs H1 => ∀ x dx, H1 x = none → H1 dx = none → dx ≠ x →
  sp (.ref x :: (vs ++ dvs)) (upd (upd H1 dx (.own x)) x (.ins C dx [])) (fun v H2 => v = .non ∧ Q (.ref x) H2) E

/-- how the parameters are bound: us the positional arguments, kw the keywords' values by name, ds the defaults that fill up -/
def Binds (K : PySem.W.Frag) (fd : FuncData) (ps : List Str) (ds : List Value) : Prop :=
  ∀ (s : Shared) (us : List Value), K.In s.heap → (us ++ ds).length = ps.length → BindsTo s fd ⟨us, []⟩ (ps.zip (us ++ ds))
/-- every parameter is given -/
theorem Binds.all {K : PySem.W.Frag} {fd : FuncData} {ps : List Str} (h : ∀ us : List Value, us.length = ps.length → bindArgs fd ⟨us, []⟩ = pure (ps.zip us)) : Binds K fd ps [] := fun s us _ hl => by
  rw [List.append_nil] at hl ⊢
  exact .of_eq (h us hl)

/-- an exception of a callee reaches what this body wants of exceptions -/
def Passes (CX : CXT) (X : Cx) (E : XK) : Prop := ∀ (pins : List (Addr × Obj)) (σ : St) (H : Hp) (s : Shared) (e : Value) (s' : Shared), Inv X pins σ H s → CX X.stack H s E e s' → X.xe e s'

section
variable {X : Cx} {CX : CXT} {k : Nat} {f C : Addr} {fd : FuncData} {ps : List Str} {sp : Sp} {dvs : List V} {ds : List Value} {E : XK} {x m : Str} {p pos apos : Pos} {e o : Expr} {es : List Expr} {ta : TE} {t : TA}

/-- the callee runs -/
theorem run_fn {pins : List (Addr × Obj)} {σ : St} {H : Hp} {s : Shared} {Q : VK} {us : List Value} {vs : List V} (F : FnOk X.prog X.w X.K X.mg X.base CX k f fd ps sp) (hr : Room k X.A) (hb : Binds X.K fd ps ds) (hd : Vals dvs ds) (hx : Passes CX X E)
    (I : Inv X pins σ H s) (r : Vals vs us) (h : sp (vs ++ dvs) H Q E) : wpAny (model X.prog X.w) X.A (call (.ref f) us) (EP X pins σ Q) X.xe s := by
  have r2 : Vals (vs ++ dvs) (us ++ ds) := r.append hd
  have hl : (us ++ ds).length = ps.length := by rw [← r2.length]; exact F.len _ _ _ _ h
  refine wpAny_call (codeAny_mono (F.run X.A X.stack s H ⟨us, []⟩ (us ++ ds) (vs ++ dvs) Q E hr I.env0 (hb s us I.kIn hl) r2 h) fun r s' hq => ?_)
  cases r with
  | error e => exact hx pins σ H s e s' I hq
  | ok fl =>
    cases fl with
    | ret u => exact I.after hq
    | next => exact False.elim hq
    | brk => exact False.elim hq
    | cont => exact False.elim hq

theorem pe_call (F : FnOk X.prog X.w X.K X.mg X.base CX k f fd ps sp) (hr : Room k X.A) (hg : Gl X x) (hm : X.mg x = some (.ref f)) (hk : PySem.W.keepIn X.K (.ref f) = true) (hb : Binds X.K fd ps ds) (hd : Vals dvs ds) (hx : Passes CX X E)
    (ha : PA X (e :: es) t) (hdb : (x == ("__debug__" : Str)) = false := by decide) (he : starEach (e :: es) X.env = (false, eval e X.env) :: starEach es X.env := by rfl) (hpl : (backTo pos (starEach es X.env)).any (·.1) = false := by rfl) :
    PE X (.Call (.Name x p) (e :: es) [] pos) (tCall sp dvs E t) := by
  intro pins s σ H Q I h
  refine wpAny_Call_Name_kw (ld_glob I hg hm ?_ hdb)
  refine PySem.W.callWith_K (h₀ := X.base) I.ok.mod.kin hk (thn (ha pos pins s σ H _ I h) fun us s1 ⟨vs, H1, I1, r, q⟩ => ⟨I1.kIn, ?_⟩) he hpl
  exact run_fn F hr hb hd hx I1 r q


/-- what a class must have to be made -/
structure Mk (K : PySem.W.Frag) (C f : Addr) : Prop where
  makes : PySem.W.makesIn K C = true
  init : PySem.W.findIn K (.ref C) "__init__" = some (some (.ref f))
  fn : PySem.W.isFn K (.ref f) = true
  kp : PySem.W.keepIn K (.ref C) = true

end

/-! ### keywords -/
/-- the values of the keywords, from the left -/
def PK (X : Cx) (kws : List Keyword) (t : TA) : Prop :=
  ∀ (pos : Pos) (pins : List (Addr × Obj)) (s : Shared) (σ : St) (H : Hp) (Q : List V → Hp → Prop), Inv X pins σ H s → t σ H Q → wpAny (model X.prog X.w) X.A (evalAll ((backToKw pos (keywordEach kws X.env)).map (·.2))) (AP X pins σ Q) X.xe s
section
variable {X : Cx} {CX : CXT} {k : Nat} {f C : Addr} {fd : FuncData} {ps ks : List Str} {sp : Sp} {E : XK} {x m : Str} {p pos apos kpos : Pos} {e o : Expr} {es : List Expr} {kws : List Keyword} {te ta : TE} {t tk : TA} {nm : Option Str}

/-- how a call with keywords binds: g puts the positional values us and the keywords' values ws (names ks) in the parameters' order, defaults among them -/
structure KBinds (K : PySem.W.Frag) (fd : FuncData) (ps ks : List Str) (g : List Value → List Value → List Value) (gV : List V → List V → List V) : Prop where
  to : ∀ (s : Shared) (us ws : List Value), K.In s.heap → (g us ws).length = ps.length → BindsTo s fd ⟨us, ks.zip ws⟩ (ps.zip (g us ws))
  rel : ∀ {vs : List V} {us : List Value} {zs : List V} {ws : List Value}, Vals vs us → Vals zs ws → Vals (gV vs zs) (g us ws)
def tCallK (sp : Sp) (gV : List V → List V → List V) (E : XK) (t tk : TA) : TE := fun σ H Q => t σ H fun vs H1 => tk σ H1 fun zs H2 => sp (gV vs zs) H2 Q E
variable {g : List Value → List Value → List Value} {gV : List V → List V → List V}
end

/-! ### a def's body keeps its promise -/
/-- names: the parameters first -/
structure FnScope (N P : List Str) (sc : Scope) : Prop where
  kind : sc.kind = .function
  co : sc.isCoroutine = false
  gen : sc.isGenerator = false
  nd : N.Nodup
  pre : N.take P.length = P
  par : ∀ x ∈ P, sc.names.lookup x = some .local ∨ sc.names.lookup x = some .cell
  nofree : ∀ y ∈ sc.names, y.2 ≠ .free

theorem bindL_out {kindOf : Str → Option NameKind} {x : Str} : ∀ {binds : List (Str × Value)} {m : Str → Option Value}, (∀ v, (x, v) ∉ binds) → bindL kindOf binds m x = m x
  | [], _, _ => rfl
  | (n, v) :: r, m, h => by
    unfold bindL
    rw [bindL_out fun w hw => h w (List.mem_cons_of_mem _ hw)]
    split
    · have : x ≠ n := by rintro rfl; exact h v List.mem_cons_self
      simp [this]
    · rfl
theorem bindC_out {kindOf : Str → Option NameKind} {x : Str} : ∀ {binds : List (Str × Value)} {m : Str → Option Value}, (∀ v, (x, v) ∉ binds) → bindC kindOf binds m x = m x
  | [], _, _ => rfl
  | (n, v) :: r, m, h => by
    unfold bindC
    rw [bindC_out fun w hw => h w (List.mem_cons_of_mem _ hw)]
    split
    · rfl
    · have : x ≠ n := by rintro rfl; exact h v List.mem_cons_self
      simp [this]
theorem bindL_get {kindOf : Str → Option NameKind} {x : Str} {v : Value} : ∀ {P : List Str} {vs : List Value} {i : Nat} {m : Str → Option Value}, P.Nodup → P[i]? = some x → vs[i]? = some v → kindOf x = some .local →
    bindL kindOf (P.zip vs) m x = some v
  | [], _, _, _, _, h, _, _ => by simp at h
  | _ :: _, [], _, _, _, _, h, _ => by simp at h
  | p :: P, w :: vs, 0, m, nd, h1, h2, hk => by
    simp at h1 h2; subst h1; subst h2
    show bindL kindOf ((p, w) :: P.zip vs) m p = _
    unfold bindL
    rw [bindL_out fun v hv => (List.nodup_cons.mp nd).1 (List.of_mem_zip hv).1, if_pos hk]
    simp
  | p :: P, w :: vs, i + 1, m, nd, h1, h2, hk => by
    show bindL kindOf ((p, w) :: P.zip vs) m x = _
    unfold bindL
    exact bindL_get (i := i) (List.nodup_cons.mp nd).2 (by simpa using h1) (by simpa using h2) hk
theorem bindC_get {kindOf : Str → Option NameKind} {x : Str} {v : Value} : ∀ {P : List Str} {vs : List Value} {i : Nat} {m : Str → Option Value}, P.Nodup → P[i]? = some x → vs[i]? = some v → kindOf x ≠ some .local →
    bindC kindOf (P.zip vs) m x = some v
  | [], _, _, _, _, h, _, _ => by simp at h
  | _ :: _, [], _, _, _, _, h, _ => by simp at h
  | p :: P, w :: vs, 0, m, nd, h1, h2, hk => by
    simp at h1 h2; subst h1; subst h2
    show bindC kindOf ((p, w) :: P.zip vs) m p = _
    unfold bindC
    rw [bindC_out fun v hv => (List.nodup_cons.mp nd).1 (List.of_mem_zip hv).1, if_neg hk]
    simp
  | p :: P, w :: vs, i + 1, m, nd, h1, h2, hk => by
    show bindC kindOf ((p, w) :: P.zip vs) m x = _
    unfold bindC
    exact bindC_get (i := i) (List.nodup_cons.mp nd).2 (by simpa using h1) (by simpa using h2) hk

/-- the names' values at the entry -/
def start (N : List Str) (vs : List V) : St := vs.map some ++ List.replicate (N.length - vs.length) none

/-- the context of a def's body, at its entry; an exception leaves the frame, then lies as CX says -/
def cxOf (CX : CXT) (P : Program) (w : World) (K : PySem.W.Frag) (mg : Str → Option Value) (base : Heap) (N : List Str) (qual : Str) (scope : Scope) (f : Addr) (cd : Value) (A : Around) (outer : List Env) (s : Shared) (H : Hp) (E : XK) : Cx where
  prog := P
  w := w
  K := K
  mg := mg
  base := base
  A := A.deeper (envOfC qual scope s.heap.objs.size f cd)
  N := N
  s₀ := s
  H₀ := H
  env := envOfC qual scope s.heap.objs.size f cd
  outer := outer
  stack := envOfC qual scope s.heap.objs.size f cd :: outer
  ex := []
  calm := true
  fn := fun _ => true
  pn := []
  xe := fun e s' => wpAny (model P w) (A.deeper (envOfC qual scope s.heap.objs.size f cd)) (leaving (envOfC qual scope s.heap.objs.size f cd) e) (fun _ s'' => CX outer H s E e s'') (fun e' s'' => CX outer H s E e' s'') s'

theorem cell_has {sc : Scope} {n : Nat} {x : Str} (h : sc.names.lookup x = some .cell) : ∃ c, (cellsFrom n sc.names []).lookup x = some c := by
  have q := PySem.W.cellsFrom_some sc.names n [] (.inl h)
  exact Option.isSome_iff_exists.mp q

theorem inv_start {CX : CXT} {P : Program} {w : World} {K : PySem.W.Frag} {mg : Str → Option Value} {base : Heap} {N ps : List Str} {qual : Str} {scope : Scope} {f : Addr} {cd : Value} {A : Around} {outer : List Env} {s s1 : Shared} {H : Hp} {E : XK} {us : List Value} {vs : List V}
    (S : FnScope N ps scope) (hd : A.handled = none) (e0 : Env0 P w K mg base A outer s H) (hl : vs.length = ps.length) (r : Vals vs us)
    (x : InCallC s s.heap.objs.size (bindL (envOfC qual scope s.heap.objs.size f cd).kindOf (ps.zip us) fun _ => none) (cellsFrom (s.heap.objs.size + 1) scope.names []) (bindC (envOfC qual scope s.heap.objs.size f cd).kindOf (ps.zip us) fun _ => none) s1) :
    Inv (cxOf CX P w K mg base N qual scope f cd A outer s H E) [] (start N vs) H s1 := by
  have hpl : ps.length ≤ N.length := by have := congrArg List.length S.pre; rw [List.length_take] at this; omega
  obtain ⟨h1, tk, rfl, hk⟩ := x.done
  have noA : ∀ b : Addr, b ∉ (cxOf CX P w K mg base N qual scope f cd A outer s H E).ex := fun b z => absurd (show b ∈ ([] : List Addr) from z) (by simp)
  refine ⟨⟨e0.mod, S.kind, rfl, rfl, Nat.le_refl _, fun y z c h1 h2 => ?_, fun y hy => ?_, fun y c _ h => ?_, fun _ => hd, Around.frames_deeper e0.frames, .inr ⟨rfl, rfl⟩, fun b z => absurd z (noA b), e0.bs, e0.bsz, fun b _ _ => noA b, fun b z => absurd z (noA b), e0.funs, e0.frf⟩,
    rfl, e0.bare, Un.kept hk, ⟨_, x.toInCall.ns, fun i y v h1 h2 h3 => ?_⟩, fun y c h => ⟨_, x.cell y c h⟩, e0.hok.fresh (Nat.le_refl _), fun y c h => ?_, fun p hp => absurd (show p ∈ ([] : List (Addr × Obj)) from hp) (by simp), e0.hok.kept hk, ?_⟩
  · exact name_of_addr x.apart (PySem.mem_of_lookup h1) (PySem.mem_of_lookup h2)
  · have hy : scope.names.lookup y = some .cell ∨ scope.names.lookup y = some .free := hy
    rcases hy with hy | hy
    · exact cell_has hy
    · exact absurd rfl (S.nofree _ (PySem.mem_of_lookup hy))
  · exact Nat.le_of_lt (x.above y c (PySem.mem_of_lookup h))
  · have hi : i < vs.length := by
      unfold start at h2
      by_cases hi : i < vs.length
      · exact hi
      · rw [List.getElem?_append_right (by simpa using hi)] at h2
        rw [List.getElem?_replicate] at h2
        split at h2 <;> cases h2
    have ha : vs[i]? = some v := by
      unfold start at h2
      rw [List.getElem?_append_left (by simpa using hi), List.getElem?_map] at h2
      cases e : vs[i]? with
      | none => rw [e] at h2; cases h2
      | some a => rw [e] at h2; cases h2; rfl
    obtain ⟨u, hu, rv⟩ := r.get ha
    have hp : ps[i]? = some y := by
      rw [← S.pre, List.getElem?_take_of_lt (by omega)]; exact h1
    have ndP : ps.Nodup := by rw [← S.pre]; exact S.nd.sublist (List.take_sublist _ _)
    refine ⟨u, rv, ?_⟩
    rcases S.par y (List.mem_of_getElem? hp) with k | k
    · exact .inl ⟨k, bindL_get ndP hp hu k⟩
    · obtain ⟨c, e⟩ := cell_has (n := s.heap.objs.size + 1) k
      refine .inr ⟨.inl k, c, e, ?_⟩
      have q := x.cell y c e
      rw [bindC_get ndP hp hu (by show scope.names.lookup y ≠ _; rw [k]; decide)] at q
      exact q
  · exact e0.hok.fresh (Nat.le_of_lt (x.above y c (PySem.mem_of_lookup h)))
  · unfold start
    show _ = N.length
    rw [List.length_append, List.length_map, List.length_replicate]
    omega

/-- THE RULE: a def (or a method) of the text, by its body. The body's reading t is chosen for each entry; it is run at the parameters' values -/
theorem fn_of {CX : CXT} {P : Program} {w : World} {K : PySem.W.Frag} {mg : Str → Option Value} {base : Heap} {k : Nat} {f : Addr} {name qual : Str} {params : Arguments} {body : List Stmt} {scope : Scope} {dV kV doc pm cdv ct oc : Value} {an od : Option Addr}
    {osl : Array (Option Value)} {N ps : List Str} {sp : Sp} (lk : K.lookup f = some ⟨oc, od, .func (PySem.W.fnOf name qual params body scope dV kV doc pm an cdv ct), osl⟩) (hcd : PySem.W.codeIn K cdv qual = true) (S : FnScope N ps scope)
    (len : ∀ vs H Q E, sp vs H Q E → vs.length = ps.length)
    (hbody : ∀ (A : Around) (outer : List Env) (s : Shared) (H : Hp) (vs : List V) (Q : VK) (E : XK), Room k (A.deeper (envOfC qual scope s.heap.objs.size f cdv)) → sp vs H Q E →
      ∃ t, PSs (cxOf CX P w K mg base N qual scope f cdv A outer s H E) body t ∧ t { nx := fun _ H' => Q .non H', rt := Q } (start N vs) H) :
    FnOk P w K mg base CX (k + 1) f (PySem.W.fnOf name qual params body scope dV kV doc pm an cdv ct) ps sp := by
  refine ⟨len, fun A outer s H args us vs Q E hr e0 hb r hsp => ?_⟩
  have hl := len _ _ _ _ hsp
  have KX : K.In s.heap := e0.mod.kin.keeps fun b o e => (e0.bs b o e).1
  have lim : s.heap.NoLimit := e0.mod.nolimit.keeps fun b o e => (e0.bs b o e).1
  have hkind : ∀ y ∈ ps.zip us, scope.names.lookup y.1 = some .local ∨ (scope.names.lookup y.1 = some .cell ∧ ((cellsFrom (s.heap.objs.size + 1) scope.names []).lookup y.1).isSome = true) := fun ⟨n, v⟩ hy => by
    rcases S.par n (List.of_mem_zip hy).1 with q | q
    · exact .inl q
    · exact .inr ⟨q, PySem.W.cellsFrom_some _ _ _ (.inl q)⟩
  refine codeAny_call_function hr.depth (KX _ _ lk) rfl S.co S.gen rfl (PySem.W.codeRec_of KX hcd) (hb _ _ _ _ ?_)
  refine wpAny_newFunctionEnv_cells S.kind hkind fun env he s1 x => ?_
  subst he
  refine ⟨lim.keeps x.toInCall.keep, codeAny_func ?_⟩
  obtain ⟨t, ht, hq⟩ := hbody A outer s H vs Q E (hr.deeper _) hsp
  have I : Inv (cxOf CX P w K mg base N qual scope f cdv A outer s H E) [] (start N vs) H s1 := inv_start S hr.hd e0 hl r x
  refine wpAny_mono (ht [] s1 (start N vs) H _ I hq) (fun fl s' hs => ?_) fun e s' hs => hs
  have fin : ∀ {σ' : St} {H' : Hp} {v : V} {u : Value}, Inv (cxOf CX P w K mg base N qual scope f cdv A outer s H E) [] σ' H' s' → RelV v u → Q v H' → CE outer P w H s Q u s' :=
    fun {σ' H' v u} J rv q => ⟨v, H', J.os, J.bare, J.base, J.hok, rv, q⟩
  cases fl with
  | ret u =>
    obtain ⟨v, σ', H', J, rv, q⟩ := hs
    exact fin J rv q
  | next =>
    obtain ⟨σ', H', J, q⟩ := hs
    exact fin (v := V.non) (u := Value.none) J rfl q
  | brk =>
    obtain ⟨_, _, _, q⟩ := hs
    exact False.elim q
  | cont =>
    obtain ⟨_, _, _, q⟩ := hs
    exact False.elim q
end L2

namespace L2
open PySem PySem.Spec PyProof.Rows
section
variable {X : Cx} {x : Str} {p pos : Pos} {e : Expr} {es : List Expr} {t : TA} {id T : String} {r : List V → Hp → VK → Prop}

def tCB (r : List V → Hp → VK → Prop) (t : TA) : TE := fun σ H Q => t σ H fun vs H1 => r vs H1 Q
/-- f(e, ..), f a built-in function -/
theorem pe_callB (hc : CallR X (.builtin id) r) (hg : Gl X x) (hm : X.mg x = none) (hv : bootBuiltins x = some (.builtin id)) (ha : PA X (e :: es) t) (hn : x ≠ "__name__" := by decide) (hdb : (x == ("__debug__" : Str)) = false := by decide)
    (he : starEach (e :: es) X.env = (false, eval e X.env) :: starEach es X.env := by rfl) (hpl : (backTo pos (starEach es X.env)).any (·.1) = false := by rfl) : PE X (.Call (.Name x p) (e :: es) [] pos) (tCB r t) := by
  intro pins s σ H Q I h
  refine wpAny_Call_Name_kw (ld_blt I hg hm hv ?_ hn hdb)
  exact PyProof.Rows.callWith_builtin1 (thn (ha pos pins s σ H _ I h) fun us s1 ⟨vs, H1, I1, r1, q1⟩ => hc pins s1 σ H1 vs us Q I1 r1 q1) he hpl
/-- T(e, ..), T a built-in type -/
theorem pe_callTy (hc : CallR X (.type T) r) (hg : Gl X x) (hm : X.mg x = none) (hv : bootBuiltins x = some (.type T)) (ha : PA X (e :: es) t) (hn : x ≠ "__name__" := by decide) (hdb : (x == ("__debug__" : Str)) = false := by decide)
    (he : starEach (e :: es) X.env = (false, eval e X.env) :: starEach es X.env := by rfl) (hpl : (backTo pos (starEach es X.env)).any (·.1) = false := by rfl) : PE X (.Call (.Name x p) (e :: es) [] pos) (tCB r t) := by
  intro pins s σ H Q I h
  refine wpAny_Call_Name_kw (ld_blt I hg hm hv ?_ hn hdb)
  exact PyProof.Rows.callWith_type1 (thn (ha pos pins s σ H _ I h) fun us s1 ⟨vs, H1, I1, r1, q1⟩ => hc pins s1 σ H1 vs us Q I1 r1 q1) he hpl
end
end L2

namespace HT
open PySem PyProof.Rows

/-- t < u of tuples of ints -/
def lexLt : List Int → List Int → Bool
  | [], [] => false
  | [], _ :: _ => true
  | _ :: _, [] => false
  | x :: xs, y :: ys => if x = y then lexLt xs ys else decide (x < y)


section
open PySem.SeqAt
open PySem.AutoSeq1 (wpAny_loadPart')
open PySem.MeetsSeq PySem.MeetsSeq2 PySem.MeetsSeq3

end

section
variable {prog : Program} {w : World} {A : Around} {E : Value → Shared → Prop} {s : Shared}



/-! ### t[a:b], not the whole -/
/-- a slice's bound as a place among n (d where it is left out) -/
def sIx (n d : Nat) : Option Int → Nat
  | none => d
  | some v => if v < 0 then (v + (n : Int)).toNat else min v.toNat n
theorem sIx_none (n d : Nat) : sIx n d none = d := rfl
theorem sIx_nat (n d k : Nat) : sIx n d (some (k : Int)) = min k n := by
  show (if (k : Int) < 0 then ((k : Int) + (n : Int)).toNat else min (k : Int).toNat n) = min k n
  rw [if_neg (by omega), Int.toNat_natCast]
theorem sIx_le (n d : Nat) (hd : d ≤ n) (o : Option Int) : sIx n d o ≤ n := by
  cases o with
  | none => exact hd
  | some v =>
    show (if v < 0 then (v + (n : Int)).toNat else min v.toNat n) ≤ n
    by_cases hv : v < 0
    · rw [if_pos hv]; omega
    · rw [if_neg hv]; exact Nat.min_le_right _ _

end
end HT

namespace L2
open PySem PySem.Spec PyProof.Rows

/-! ### the parts of a slice -/
abbrev TO := St → Hp → (Option Int → Hp → Prop) → Prop
/-- a slice's part (left out, or an int) -/
def PO (X : Cx) (e : Option Expr) (t : TO) : Prop :=
  ∀ (pins : List (Addr × Obj)) (s : Shared) (σ : St) (H : Hp) (Q : Option Int → Hp → Prop), Inv X pins σ H s → t σ H Q →
    wpAny (model X.prog X.w) X.A (evalPart e X.env) (fun u s' => ∃ o H', Inv X pins σ H' s' ∧ IsPart u o ∧ Q o H') X.xe s
def tNoPart : TO := fun _ H Q => Q none H
def tPart (t : TE) : TO := fun σ H Q => t σ H fun x H1 => ∃ i, x = .int i ∧ Q (some i) H1


section
variable {X : Cx} {e : Expr} {te : TE} {lo hi : Option Expr} {tl th : TO} {pos p2 : Pos}

theorem po_none : PO X none tNoPart := by
  intro pins s σ H Q I h
  rw [evalPart_none]
  exact wpAny_pure ⟨none, H, I, .none, h⟩
theorem po_some (h : PE X e te) : PO X (some e) (tPart te) := by
  intro pins s σ H Q I hw
  rw [evalPart_some]
  refine thn (h pins s σ H _ I hw) fun u s1 ⟨x, H1, I1, r1, q1⟩ => ?_
  obtain ⟨i, rfl, q⟩ := q1
  obtain ⟨t, rfl⟩ := r1
  exact ⟨some i, H1, I1, .int i t, q⟩

/-- what a slice of a value is, by values: the slice object stands at sl -/
def SlR (X : Cx) (r : V → Option Int → Option Int → Hp → VK → Prop) : Prop :=
  ∀ (pins : List (Addr × Obj)) (s : Shared) (σ : St) (H : Hp) (x : V) (v vl vu : Value) (lo hi : Option Int) (sl : Addr) (Q : VK), Inv X pins σ H s → RelV x v → s.heap.IsSliceOf sl vl vu .none → IsPart vl lo → IsPart vu hi → r x lo hi H Q →
    ∃ T id, typeLookup (.type T) "__getitem__" = pure (some (.builtin id)) ∧ s.TypeIs v T ∧ wpAny (model X.prog X.w) X.A (getItem v (.ref sl)) (EP X pins σ Q) X.xe s
def tSl (r : V → Option Int → Option Int → Hp → VK → Prop) (te : TE) (tl th : TO) : TE := fun σ H Q => te σ H fun x H1 => tl σ H1 fun l H2 => th σ H2 fun u H3 => r x l u H3 Q
/-- a[lo:hi], any a -/
theorem pe_slice {r : V → Option Int → Option Int → Hp → VK → Prop} (hr : SlR X r) (he : PE X e te) (hl : PO X lo tl) (hu : PO X hi th) : PE X (.Subscript e (.Slice lo hi none p2) pos) (tSl r te tl th) := by
  intro pins s σ H Q I h
  refine Subscript_ (thn (he pins s σ H _ I h) fun v s1 ⟨x, H1, I1, r1, q1⟩ => ?_)
  refine wpAny_Slice (thn (hl pins s1 σ H1 _ I1 q1) fun vl s2 ⟨l, H2, I2, pl, q2⟩ => thn (hu pins s2 σ H2 _ I2 q2) fun vu s3 ⟨u, H3, I3, pu, q3⟩ => ?_)
  rw [evalPart_none]
  refine wpAny_pure ?_
  have I4 : Inv X pins σ H3 { s3 with heap := s3.heap.push { cls := .type "slice", data := .fields #[vl, vu, .none] } } := I3.kept (t' := s3.toks) fun b ob q => Heap.get?_push_of_some _ q
  obtain ⟨T, id, hT, ht, hg⟩ := hr pins { s3 with heap := s3.heap.push { cls := .type "slice", data := .fields #[vl, vu, .none] } } σ H3 x v vl vu l u s3.heap.objs.size Q I4 r1 (Heap.IsSliceOf.new ..) pl pu q3
  show wpAny (model X.prog X.w) X.A (subscriptTail e (.Slice lo hi none p2) v (.ref s3.heap.objs.size)) (EP X pins σ Q) X.xe { s3 with heap := s3.heap.push { cls := .type "slice", data := .fields #[vl, vu, .none] } }
  exact tail_any (ops := [.ref s3.heap.objs.size, v]) ht hT hg (by with_unfolding_all rfl)

/-- the items of xs[lo:hi] -/
def cutV (xs : List V) (lo hi : Option Int) : List V := (xs.drop (HT.sIx xs.length 0 lo)).take (HT.sIx xs.length xs.length hi - HT.sIx xs.length 0 lo)
theorem cutV_length (xs : List V) (lo hi : Option Int) : (cutV xs lo hi).length ≤ xs.length := by
  unfold cutV
  rw [List.length_take, List.length_drop]
  omega
/-- t[lo:hi], not the whole of it (the whole would be t itself) -/
def rSlT (K : PySem.W.Frag) : V → Option Int → Option Int → Hp → VK → Prop := fun x lo hi H Q => ∃ a xs, x = .ref a ∧ SqT K H a xs ∧
  ¬ (HT.sIx xs.length 0 lo = 0 ∧ HT.sIx xs.length xs.length hi = xs.length) ∧ ∀ p, H p = none → Q (.ref p) (upd H p (.tup (cutV xs lo hi)))

/-! ### t < u, t + u -/
def rLtT (K : PySem.W.Frag) : R2 := fun x y H Q => ∃ a b ns ms, x = .ref a ∧ y = .ref b ∧ SqT K H a (ns.map V.int) ∧ SqT K H b (ms.map V.int) ∧ Q (.bl (HT.lexLt ns ms)) H
/-- t + u, t not empty: u empty gives t itself -/
def rCatT (K : PySem.W.Frag) : R2 := fun x y H Q => ∃ a b xs ys, x = .ref a ∧ y = .ref b ∧ SqT K H a xs ∧ SqT K H b ys ∧ xs ≠ [] ∧ xs.length + ys.length ≤ sizeLine ∧
  (ys = [] → Q (.ref a) H) ∧ (ys ≠ [] → ∀ p, H p = none → Q (.ref p) (upd H p (.tup (xs ++ ys))))
end
end L2

namespace L2
open PySem PySem.Spec PyProof.Rows

/-! ### places -/
/-- the place that an index of any sign means -/
def ixN (n : Nat) (i : Int) : Option Nat := if 0 ≤ i then (if i < n then some i.toNat else none) else if -(n : Int) ≤ i then some (i + n).toNat else none
def atI {α : Type} (xs : List α) (i : Int) : Option α := (ixN xs.length i).bind fun j => xs[j]?
theorem ixN_seq {n : Nat} {i : Int} {j : Nat} (h : ixN n i = some j) : seqIndex? i n = some j ∧ j < n ∧ -(n : Int) ≤ i ∧ i < n := by
  unfold ixN at h
  by_cases h0 : 0 ≤ i
  · rw [if_pos h0] at h
    by_cases h1 : i < n
    · rw [if_pos h1] at h
      have e : i.toNat = j := Option.some.inj h
      exact ⟨by rw [seqIndex_of h0 h1, e], by omega, by omega, h1⟩
    · rw [if_neg h1] at h; cases h
  · rw [if_neg h0] at h
    by_cases h1 : -(n : Int) ≤ i
    · rw [if_pos h1] at h
      have e : (i + n).toNat = j := Option.some.inj h
      exact ⟨by rw [seqIndex_neg (by omega) h1, e], by omega, h1, by omega⟩
    · rw [if_neg h1] at h; cases h
theorem atI_get {α : Type} {xs : List α} {i : Int} {v : α} (h : atI xs i = some v) : ∃ j, seqIndex? i xs.length = some j ∧ xs[j]? = some v ∧ j < xs.length ∧ -(xs.length : Int) ≤ i ∧ i < xs.length := by
  unfold atI at h
  cases e : ixN xs.length i with
  | none => rw [e] at h; cases h
  | some j =>
    rw [e] at h
    obtain ⟨h1, h2, h3, h4⟩ := ixN_seq e
    exact ⟨j, h1, h, h2, h3, h4⟩

/-! ### what may be subscripted -/
/-- what stands as an index of a plain subscript -/
def PlainIx (b : Expr) : Prop := ∀ o i, subscripted b false o i = operate [o, i] (getItem o i)
/-- a subscript by values -/
def IxR (X : Cx) (r : R2) : Prop :=
  ∀ (value slice : Expr) (pins : List (Addr × Obj)) (s : Shared) (σ : St) (H : Hp) (x y : V) (v u : Value) (Q : VK), Inv X pins σ H s → RelV x v → RelV y u → r x y H Q →
    subscripted slice false v u = operate [v, u] (getItem v u) → wpAny (model X.prog X.w) X.A (subscriptTail value slice v u) (EP X pins σ Q) X.xe s
/-- a call of a builtin's method by values: the receiver, the arguments -/
def MtR (X : Cx) (id : String) (r : V → List V → Hp → VK → Prop) : Prop :=
  ∀ (pins : List (Addr × Obj)) (s : Shared) (σ : St) (H : Hp) (x : V) (xs : List V) (v : Value) (us : List Value) (Q : VK), Inv X pins σ H s → RelV x v → Vals xs us → r x xs H Q →
    wpAny (model X.prog X.w) X.A (call (.builtin id) (v :: us)) (EP X pins σ Q) X.xe s
section
variable {X : Cx} {a b : Expr} {ta tb : TE} {pos : Pos}
/-- a[b] -/
theorem pe_ix {r : R2} (hr : IxR X r) (ha : PE X a ta) (hb : PE X b tb) (hs : PlainIx b) : PE X (.Subscript a b pos) (tOp r ta tb) := by
  intro pins s σ H Q I h
  exact Subscript_ (binT ha hb I h fun v u s2 x y H2 I2 rx ry q => hr a b pins s2 σ H2 x y v u Q I2 rx ry q (hs _ _))

def rIxL (K : PySem.W.Frag) : R2 := fun x y H Q => ∃ p xs i v, x = .ref p ∧ y = .int i ∧ SqL K H p xs ∧ atI xs i = some v ∧ Q v H
def rIxT (K : PySem.W.Frag) : R2 := fun x y H Q => ∃ p xs i v, x = .ref p ∧ y = .int i ∧ SqT K H p xs ∧ atI xs i = some v ∧ Q v H
def rIxS : R2 := fun x y H Q => ∃ z i c, x = .str z ∧ y = .int i ∧ z.length ≤ sizeLine ∧ atI z.cps.toList i = some c ∧ Q (.str ⟨#[c]⟩) H
theorem ix_list : IxR X (rIxL X.K) := by
  intro value slice pins s σ H x y v u Q I rx ry h hs
  obtain ⟨p, xs, i, z, rfl, rfl, hq, he, q⟩ := h
  cases rx
  obtain ⟨t, rfl⟩ := ry
  obtain ⟨its, r, pl, hz⟩ := I.list hq
  obtain ⟨j, h1, h2, h3, h4, h5⟩ := atI_get he
  obtain ⟨w, ew, rw'⟩ := r.get h2
  have hl := r.length
  have hn := line63
  have fin : EP X pins σ Q w s := ⟨z, H, I, rw', q⟩
  by_cases h0 : 0 ≤ i
  · have hj : i.toNat = j := by
      rw [seqIndex_of h0 h5] at h1
      exact Option.some.inj h1
    exact item_listR pl.isList h0 (by omega) (by rw [hj]; simpa using ew) fin hs
  · have hj : (i + (its.toArray.size : Int)).toNat = j := by
      rw [seqIndex_neg (by omega) h4] at h1
      rw [List.size_toArray, ← hl]
      exact Option.some.inj h1
    exact subscriptTail_builtinR (x := w) pl.isList.typeIs slot_list_getitem.lookup
      (wpAny_getItem_list_neg (Q := fun r s' => r = w ∧ EP X pins σ Q r s') pl.isList (by omega) (by rw [List.size_toArray] <;> omega) (by omega) (by rw [hj]; simpa using ew) ⟨rfl, fin⟩) hs
theorem ix_str : IxR X rIxS := by
  intro value slice pins s σ H x y v u Q I rx ry h hs
  obtain ⟨z, i, c, rfl, rfl, hz, he, q⟩ := h
  obtain ⟨t, rfl⟩ := rx
  obtain ⟨t', rfl⟩ := ry
  obtain ⟨j, h1, h2, h3, h4, h5⟩ := atI_get he
  have hl : z.cps.toList.length = z.length := by simp [Str.length]
  rw [hl] at h1 h4 h5
  have hn := line63
  exact tail_any (typeIs_str s z t) slot_str_getitem.lookup (getItem_str (c := c) (by
    have e1 : decide (i < -(2 ^ 63 : Int)) = false := decide_eq_false (by omega)
    have e2 : decide (i ≥ 2 ^ 63) = false := decide_eq_false (by omega)
    rw [e1, e2, Bool.or_false]) (by rw [h1]; simpa using h2) ⟨.str ⟨#[c]⟩, H, I.tok _, ⟨_, rfl⟩, q⟩) hs
/-- list, tuple or str -/
def rIx (K : PySem.W.Frag) : R2 := fun x y H Q => rIxL K x y H Q ∨ rIxT K x y H Q ∨ rIxS x y H Q

/-! ### xs[i] = v, any sign -/
/-- the list's object behind a store -/
theorem mapSeq_set (its : List Value) (n j : Nat) (u : Value) : Obj.mapSeq (·.setIfInBounds j u) { cls := .type "list", data := .seq its.toArray n } = { cls := .type "list", data := .seq (its.set j u).toArray n } := by
  simp [Obj.mapSeq]
theorem Inv.lst {pins : List (Addr × Obj)} {σ : St} {H : Hp} {s : Shared} {p : Addr} {xs : List V} (I : Inv X pins σ H s) (h : H p = some (.lst xs)) :
    ∃ (its : List Value) (n : Nat), Vals xs its ∧ s.heap.get? p = some { cls := .type "list", data := .seq its.toArray n } ∧ xs.length ≤ sizeLine := by
  obtain ⟨z, its, n, r, e⟩ := I.hok p _ h
  exact ⟨its, n, r, e, z⟩
/-- the list at p is written by an update of its object -/
theorem Inv.lstUpd {pins : List (Addr × Obj)} {σ : St} {H : Hp} {s : Shared} {p : Addr} {xs ys : List V} {its its' : List Value} {n n' : Nat} {f : Obj → Obj} (I : Inv X pins σ H s) (h : H p = some (.lst xs))
    (ho : s.heap.get? p = some { cls := .type "list", data := .seq its.toArray n }) (hf : f { cls := .type "list", data := .seq its.toArray n } = { cls := .type "list", data := .seq its'.toArray n' }) (r : Vals ys its') (hz : ys.length ≤ sizeLine) (t : Nat) :
    Inv X pins σ (upd H p (.lst ys)) { s with heap := s.heap.update p f, toks := t } := by
  have e : (s.heap.update p f).get? p = some { cls := .type "list", data := .seq its'.toArray n' } := by
    rw [Heap.get?_update_self f ho (by rw [hf] <;> rfl), hf]
  refine I.write (x := p) (e := p) (by rw [h]; trivial) (.inl rfl) (fun b u hb q => (Heap.get?_update_other _ _ (Ne.symm hb)).trans q) ⟨_, e⟩ ?_
  exact ⟨hz, its', n', r, e⟩
def rSetL : V → V → V → Hp → (Hp → Prop) → Prop := fun o i v H Q => ∃ p xs k j, o = .ref p ∧ i = .int k ∧ H p = some (.lst xs) ∧ ixN xs.length k = some j ∧ Q (upd H p (.lst (xs.set j v)))
theorem set_list : PSet X rSetL := by
  intro pins s σ H o i v ov iv u Q I ro ri rv h
  obtain ⟨p, xs, k, j, rfl, rfl, hp, hj, q⟩ := h
  cases ro
  obtain ⟨t, rfl⟩ := ri
  obtain ⟨its, n, r, ho, hz⟩ := I.lst hp
  obtain ⟨h1, h2, h3, h4⟩ := ixN_seq hj
  have hl := r.length
  have hn := line63
  have I' : Inv X pins σ (upd H p (.lst (xs.set j v))) { s with heap := s.heap.update p (Obj.mapSeq (·.setIfInBounds j u)) } :=
    I.lstUpd hp ho (mapSeq_set its n j u) (r.set rv j) (by rw [List.length_set]; exact hz) s.toks
  by_cases h0 : 0 ≤ k
  · have hk : k.toNat = j := by
      rw [seqIndex_of h0 h4] at h1
      exact Option.some.inj h1
    exact PySem.W.ki_setAt ho h0 (by omega) (by rw [List.size_toArray, ← hl]; exact h4) (by rw [hk]; exact ⟨_, I', q⟩)
  · have hk : (k + (its.toArray.size : Int)).toNat = j := by
      rw [seqIndex_neg (by omega) h3] at h1
      rw [List.size_toArray, ← hl]
      exact Option.some.inj h1
    exact PySem.W.ki_setBack ho (by omega) (by rw [List.size_toArray, ← hl]; exact h3) (by omega) (by rw [hk]; exact ⟨_, I', q⟩)

/-! ### slices -/
theorem slice_bounds (lo hi : Option Int) (n : Nat) : (sliceBounds lo hi none n).1 = ((HT.sIx n 0 lo : Nat) : Int) ∧ (sliceBounds lo hi none n).2.1 = ((HT.sIx n n hi : Nat) : Int) ∧ (sliceBounds lo hi none n).2.2 = 1 := by
  refine ⟨?_, ?_, rfl⟩
  · cases lo with
    | none => simp [sliceBounds, HT.sIx]
    | some i =>
      simp only [sliceBounds, HT.sIx, Option.getD_none, show (1 : Int) > 0 by decide, if_true]
      by_cases h : i < 0
      · simp only [h, if_true] <;> omega
      · simp only [h, if_false] <;> omega
  · cases hi with
    | none => simp [sliceBounds, HT.sIx]
    | some i =>
      simp only [sliceBounds, HT.sIx, Option.getD_none, show (1 : Int) > 0 by decide, if_true]
      by_cases h : i < 0
      · simp only [h, if_true] <;> omega
      · simp only [h, if_false] <;> omega
theorem slicePick_cut (its : List Value) (lo hi : Option Int) : slicePick its.toArray lo hi none = ((its.drop (HT.sIx its.length 0 lo)).take (HT.sIx its.length its.length hi - HT.sIx its.length 0 lo)).toArray := by
  obtain ⟨h1, h2, h3⟩ := slice_bounds lo hi its.toArray.size
  unfold slicePick
  rw [h1, h2, h3]
  simp only [sliceRange_one, pick_run, List.size_toArray] <;> rfl
/-- xs[lo:hi] of a list: a new list -/
def rSlL (K : PySem.W.Frag) : V → Option Int → Option Int → Hp → VK → Prop := fun x lo hi H Q => ∃ a xs, x = .ref a ∧ SqL K H a xs ∧ ∀ p, H p = none → Q (.ref p) (upd H p (.lst (cutV xs lo hi)))
theorem sl_list : SlR X (rSlL X.K) := by
  intro pins s σ H x v vl vu lo hi sl Q I rx hs pl pu h
  obtain ⟨a, xs, rfl, hx, q⟩ := h
  cases rx
  obtain ⟨its, r, ht, hz⟩ := I.list hx
  have hlen := r.length
  refine ⟨"list", _, slot_list_getitem.lookup, ht.isList.typeIs, ?_⟩
  refine wpAny_getItem_list_slice ht.isList hs pl pu .none (by simp) ?_ (by rw [List.size_toArray] <;> omega)
  rw [slicePick_cut, ← hlen]
  refine ⟨.ref s.heap.objs.size, _, I.laid (t' := s.toks) (o := .lst (cutV xs lo hi)) (fun b ob q => Heap.get?_push_of_some _ q) (Nat.le_refl _) ?_, rfl, q _ (I.hok.fresh (Nat.le_refl _))⟩
  exact ⟨Nat.le_trans (cutV_length xs lo hi) hz, _, 0, (r.drop (HT.sIx xs.length 0 lo)).take (HT.sIx xs.length xs.length hi - HT.sIx xs.length 0 lo), Heap.get?_push_size _ rfl⟩

/-! ### in, not in: flat items -/
def flatV : V → Bool
  | .non => true
  | .bl _ => true
  | .int _ => true
  | .str _ => true
  | _ => false
/-- == of flat values -/
def eqV : V → V → Bool
  | .non, .non => true
  | .bl a, .bl b => a == b
  | .bl a, .int b => (if a then 1 else 0) == b
  | .int a, .bl b => a == (if b then 1 else 0)
  | .int a, .int b => a == b
  | .str a, .str b => a == b
  | _, _ => false
theorem eqAt_V {A : Around} {s : Shared} {y x : V} {u v : Value} (ry : RelV y u) (rx : RelV x v) (fy : flatV y = true) (fx : flatV x = true) : SeqAt.EqAt A s u v (eqV y x) := by
  cases y with
  | non =>
    cases ry
    cases x with
    | non => cases rx; exact SeqAt.EqAt.same _
    | bl b => cases rx; exact SeqAt.EqAt.none_bool b
    | int b => obtain ⟨t, rfl⟩ := rx; exact SeqAt.EqAt.none_int b t
    | str b => obtain ⟨t, rfl⟩ := rx; exact SeqAt.EqAt.none_str b t
    | _ => exact absurd (show false = true from fx) Bool.false_ne_true
  | bl a =>
    cases ry
    cases x with
    | non => cases rx; exact SeqAt.EqAt.bool_none a
    | bl b => cases rx; exact SeqAt.EqAt.bool_bool a b
    | int b => obtain ⟨t, rfl⟩ := rx; exact SeqAt.EqAt.bool_int a b t
    | str b => obtain ⟨t, rfl⟩ := rx; exact SeqAt.EqAt.bool_str a b t
    | _ => exact absurd (show false = true from fx) Bool.false_ne_true
  | int a =>
    obtain ⟨t', rfl⟩ := ry
    cases x with
    | non => cases rx; exact SeqAt.EqAt.int_none a t'
    | bl b => cases rx; exact SeqAt.EqAt.int_bool a t' b
    | int b => obtain ⟨t, rfl⟩ := rx; exact SeqAt.EqAt.int_int a t' b t
    | str b => obtain ⟨t, rfl⟩ := rx; exact SeqAt.EqAt.int_str a t' b t
    | _ => exact absurd (show false = true from fx) Bool.false_ne_true
  | str a =>
    obtain ⟨t', rfl⟩ := ry
    cases x with
    | non => cases rx; exact SeqAt.EqAt.str_none a t'
    | bl b => cases rx; exact SeqAt.EqAt.str_bool a t' b
    | int b => obtain ⟨t, rfl⟩ := rx; exact SeqAt.EqAt.str_int a t' b t
    | str b => obtain ⟨t, rfl⟩ := rx; exact SeqAt.EqAt.str_str a t' b t
    | _ => exact absurd (show false = true from fx) Bool.false_ne_true
  | _ => exact absurd (show false = true from fy) Bool.false_ne_true
/-- the items' answers, read off the values (a value's own answer does not lean on its token) -/
def eqU (x : V) (u : Value) : Bool := match u with
  | .none => eqV .non x
  | .bool b => eqV (.bl b) x
  | .int i _ => eqV (.int i) x
  | .str z _ => eqV (.str z) x
  | _ => false
theorem eqU_of {x y : V} {u : Value} (r : RelV y u) (f : flatV y = true) : eqU x u = eqV y x := by
  cases y with
  | non => cases r; rfl
  | bl b => cases r; rfl
  | int i => obtain ⟨t, rfl⟩ := r; rfl
  | str z => obtain ⟨t, rfl⟩ := r; rfl
  | _ => exact absurd (show false = true from f) Bool.false_ne_true
theorem any_eqU {x : V} : ∀ {xs : List V} {us : List Value}, Vals xs us → xs.all flatV = true → us.any (eqU x) = xs.any fun y => eqV y x
  | _, _, .nil, _ => rfl
  | y :: xs, u :: us, .cons r t, f => by
    rw [List.all_cons, Bool.and_eq_true] at f
    rw [List.any_cons, List.any_cons, eqU_of r f.1, any_eqU t f.2]
theorem mem_eqAt {A : Around} {s : Shared} {x : V} {v : Value} (rx : RelV x v) (fx : flatV x = true) : ∀ {xs : List V} {us : List Value}, Vals xs us → xs.all flatV = true → ∀ u ∈ us, SeqAt.EqAt A s u v (eqU x u)
  | _, _, .nil, _ => fun u hu => by cases hu
  | y :: xs, u :: us, .cons r t, f => fun u' hu => by
    rw [List.all_cons, Bool.and_eq_true] at f
    rcases List.mem_cons.mp hu with rfl | hu
    · rw [eqU_of r f.1]; exact eqAt_V r rx f.1 fx
    · exact mem_eqAt rx fx t f.2 u' hu
def inV (x : V) (xs : List V) : Bool := xs.any fun y => eqV y x
/-- x in a list or tuple of flat items -/
def rIn (K : PySem.W.Frag) (neg : Bool) : R2 := fun x y H Q => ∃ p xs, y = .ref p ∧ (SqL K H p xs ∨ SqT K H p xs) ∧ flatV x = true ∧ xs.all flatV = true ∧ Q (.bl (if neg then !inV x xs else inV x xs)) H
theorem op_in_seq : OpR X (compareOp .In) (rIn X.K false) := by
  intro pins s σ H x y v u Q I rx ry h
  obtain ⟨p, xs, rfl, hq, fx, fs, q⟩ := h
  cases ry
  rcases hq with hq | hq
  · obtain ⟨its, r, pl, hz⟩ := I.list hq
    refine SeqAt.in_listAt (eqU x) pl.isList (fun w hw => mem_eqAt rx fx r fs w (by simpa using hw)) ⟨.bl _, H, I, rfl, ?_⟩
    rw [show its.toArray.any (eqU x) = its.any (eqU x) by simp, any_eqU r fs]
    exact q
  · obtain ⟨its, r, pl, hz⟩ := I.tuple hq
    refine SeqAt.in_tupleAt (eqU x) pl (fun w hw => mem_eqAt rx fx r fs w (by simpa using hw)) ⟨.bl _, H, I, rfl, ?_⟩
    rw [show its.toArray.any (eqU x) = its.any (eqU x) by simp, any_eqU r fs]
    exact q

/-! ### len, list(x), tuple(x) of any list or tuple that is read -/
theorem call_len_seq : CallR X (.builtin "len") (fun xs H Q => ∃ p ys, xs = [.ref p] ∧ (SqL X.K H p ys ∨ SqT X.K H p ys) ∧ Q (.int ys.length) H) := by
  intro pins s σ H xs us Q I r h
  obtain ⟨p, ys, rfl, hq, q⟩ := h
  obtain ⟨u, rfl, rx⟩ := vals1 r
  cases rx
  have hn := line63
  rcases hq with hq | hq
  · obtain ⟨its, r', pl, hz⟩ := I.list hq
    have hlen := r'.length
    exact Calls.call_len_list pl.isList (by simp only [List.size_toArray] <;> omega) ⟨.int ys.length, H, I.tok _, ⟨s.toks + 1, by rw [List.size_toArray, hlen]⟩, q⟩
  · obtain ⟨its, r', pl, hz⟩ := I.tuple hq
    have hlen := r'.length
    exact len_tuple pl (by simp only [List.size_toArray] <;> omega) ⟨.int ys.length, H, I.tok _, ⟨s.toks + 1, by rw [List.size_toArray, hlen]⟩, q⟩
theorem call_len_str : CallR X (.builtin "len") (fun xs H Q => ∃ z, xs = [.str z] ∧ z.length ≤ sizeLine ∧ Q (.int z.length) H) := by
  intro pins s σ H xs us Q I r h
  obtain ⟨z, rfl, hz, q⟩ := h
  obtain ⟨u, rfl, t, rfl⟩ := vals1 r
  have hn := line63
  exact len_str (by omega) ⟨.int z.length, H, I.tok _, ⟨_, rfl⟩, q⟩
theorem call_list_of : CallR X (.type "list") (fun xs H Q => ∃ p ys, xs = [.ref p] ∧ (SqL X.K H p ys ∨ SqT X.K H p ys) ∧ ∀ l, H l = none → Q (.ref l) (upd H l (.lst ys))) := by
  intro pins s σ H xs us Q I r h
  obtain ⟨p, ys, rfl, hq, q⟩ := h
  obtain ⟨u, rfl, rx⟩ := vals1 r
  cases rx
  have fin : ∀ (its : List Value), Vals ys its → ys.length ≤ sizeLine → ∀ (h' : Heap) (c' : Nat), (∀ b o', s.heap.get? b = some o' → h'.get? b = some o') →
      h'.get? s.heap.objs.size = some { cls := .type "list", dict := none, data := .seq its.toArray c', slots := #[] } → EP X pins σ Q (.ref s.heap.objs.size) { s with heap := h' } := fun its r' hz h' c' kp e =>
    ⟨.ref s.heap.objs.size, _, I.laid (t' := s.toks) kp (Nat.le_refl _) (show ObjOk X.prog X.w _ h' _ (.lst ys) from ⟨hz, its, c', r', e⟩), rfl, q _ (I.hok.fresh (Nat.le_refl _))⟩
  rcases hq with hq | hq
  · obtain ⟨its, r', pl, hz⟩ := I.list hq
    have hlen := r'.length
    obtain ⟨o, ho, hc, n, hd⟩ := pl.isList
    exact call_list_seq p (.inl rfl) ho hc hd (fun h' c' kp e => fin its r' hz h' c' kp e) (by simp only [List.size_toArray] <;> omega)
  · obtain ⟨its, r', pl, hz⟩ := I.tuple hq
    have hlen := r'.length
    obtain ⟨o, ho, hc, n, hd⟩ := pl
    exact call_list_seq p (.inr rfl) ho hc hd (fun h' c' kp e => fin its r' hz h' c' kp e) (by simp only [List.size_toArray] <;> omega)

/-! ### the call of a builtin's method: o.m(..) -/
/-- the value is of that builtin type -/
def tyV (K : PySem.W.Frag) (T : String) (x : V) (H : Hp) : Prop := match x with
  | .str _ => T = "str"
  | .int _ => T = "int"
  | .ref p => (T = "list" ∧ ∃ xs, SqL K H p xs) ∨ (T = "tuple" ∧ ∃ o, K.lookup p = some o ∧ o.cls = .type "tuple" ∧ o.dict = none) ∨
      (T = "dict" ∧ ((∃ kvs, H p = some (.dK kvs)) ∨ ∃ kvs, H p = some (.dT kvs))) ∨ (T = "set" ∧ ∃ S n, H p = some (.set S n))
  | _ => False
theorem tyV_is {pins : List (Addr × Obj)} {σ : St} {H : Hp} {s : Shared} {T : String} {x : V} {v : Value} (I : Inv X pins σ H s) (r : RelV x v) (ty : tyV X.K T x H) :
    s.TypeIs v T ∧ ∀ a, v = .ref a → ∃ ob, s.heap.get? a = some ob ∧ ob.dict = none := by
  cases x with
  | str z =>
    obtain ⟨t, rfl⟩ := r
    cases (show T = "str" from ty)
    exact ⟨typeIs_str s z t, fun _ e => nomatch e⟩
  | int i =>
    obtain ⟨t, rfl⟩ := r
    cases (show T = "int" from ty)
    exact ⟨typeIs_int s i t, fun _ e => nomatch e⟩
  | ref p =>
    cases r
    rcases ty with ⟨rfl, xs, hq⟩ | ⟨rfl, o, hk, hc, hd⟩ | ⟨rfl, hk⟩ | ⟨rfl, S, n, hk⟩
    · obtain ⟨its, _, pl, _⟩ := I.list hq
      refine ⟨pl.isList.typeIs, fun a e => ?_⟩
      cases e
      obtain ⟨o, n, e, c, hd, _⟩ := pl
      exact ⟨o, e, hd⟩
    · refine ⟨⟨o, I.kIn p o hk, hc⟩, fun a e => ?_⟩
      cases e
      exact ⟨o, I.kIn _ o hk, hd⟩
    · have z : ∃ o, s.heap.get? p = some o ∧ o.ExactDict := by
        rcases hk with ⟨kvs, hk⟩ | ⟨kvs, hk⟩
        · obtain ⟨_, _, _, _, o, _, _, e, ex, _⟩ := I.hok p _ hk
          exact ⟨o, e, ex⟩
        · obtain ⟨_, _, _, _, o, _, _, e, ex, _⟩ := I.hok p _ hk
          exact ⟨o, e, ex⟩
      obtain ⟨o, e, ex⟩ := z
      refine ⟨⟨o, e, ex.1⟩, fun a e2 => ?_⟩
      cases e2
      exact ⟨o, e, ex.2.1⟩
    · obtain ⟨o, _, _, _, e, ex, _⟩ := I.hok p _ hk
      refine ⟨⟨o, e, ex.1⟩, fun a e2 => ?_⟩
      cases e2
      exact ⟨o, e, ex.2.1⟩
  | _ => exact False.elim ty
def tBM0 (K : PySem.W.Frag) (T : String) (r : V → List V → Hp → VK → Prop) (to : TE) : TE := fun σ H Q => to σ H fun x H1 => tyV K T x H1 ∧ r x [] H1 Q
def tBM (K : PySem.W.Frag) (T : String) (r : V → List V → Hp → VK → Prop) (to : TE) (t : TA) : TE := fun σ H Q => to σ H fun x H1 => tyV K T x H1 ∧ t σ H1 fun xs H2 => r x xs H2 Q
variable {o e : Expr} {es : List Expr} {to : TE} {t : TA} {name : Str} {apos cpos : Pos} {T id : String} {r : V → List V → Hp → VK → Prop}
theorem pe_bm0 (pa : PlainAttrs T) (slot : Slot T name id) (hty : typeOf (.builtin id) = pure (.type "method_descriptor")) (hm : MtR X id r) (ho : PE X o to)
    (hbase : attributeBase o name X.env (eval o X.env) = eval o X.env := by rfl) (hline : (apos.endLine == cpos.line) = true := by rfl) : PE X (.Call (.Attribute o name apos) [] [] cpos) (tBM0 X.K T r to) := by
  intro pins s σ H Q I h
  refine wpAny_Call_method0_late hbase hline (thn (ho pins s σ H _ I h) fun v s1 ⟨x, H1, I1, r1, ty, q1⟩ => ?_)
  obtain ⟨h1, h2⟩ := tyV_is I1 r1 ty
  exact ⟨T, id, pa, slot, hty, h1, h2, Calls.callWith_builtin rfl (PySem.evalArgs_none (hm pins s1 σ H1 x [] v [] Q I1 r1 .nil q1))⟩
theorem pe_bm (pa : PlainAttrs T) (slot : Slot T name id) (hty : typeOf (.builtin id) = pure (.type "method_descriptor")) (hm : MtR X id r) (ho : PE X o to) (ha : PA X (e :: es) t)
    (hbase : attributeBase o name X.env (eval o X.env) = eval o X.env := by rfl)
    (hfew : ((backTo cpos (starEach (e :: es) X.env)).all (fun x => !x.1) && (backToKw cpos (keywordEach [] X.env)).all (fun x => x.1.isSome)
      && decide ((e :: es).length + ([] : List Keyword).length + (if ([] : List Keyword).isEmpty then 0 else 1) < 30)) = true := by rfl)
    (hline : (apos.endLine == cpos.line) = true := by rfl) (hs : starEach (e :: es) X.env = (false, eval e X.env) :: starEach es X.env := by rfl) (hplain : (backTo cpos (starEach es X.env)).any (·.1) = false := by rfl) :
    PE X (.Call (.Attribute o name apos) (e :: es) [] cpos) (tBM X.K T r to t) := by
  intro pins s σ H Q I h
  refine wpAny_Call_method_late hbase hfew hline rfl (thn (ho pins s σ H _ I h) fun v s1 ⟨x, H1, I1, r1, ty, q1⟩ => ?_)
  obtain ⟨h1, h2⟩ := tyV_is I1 r1 ty
  refine ⟨T, id, pa, slot, hty, h1, h2, ?_⟩
  have hA := ha cpos pins s1 σ H1 _ I1 q1
  rw [hs] at hA ⊢
  refine Calls.callWith_builtin (by show (false || (backTo cpos (starEach es X.env)).any (·.1)) = false; rw [hplain] <;> rfl) (Calls.evalArgs_plain ?_)
  exact thn hA fun us s2 ⟨vs, H2, I2, r2, q2⟩ => hm pins s2 σ H2 x vs v us Q I2 r1 r2 q2
/- xs.append(e), list.index on a module's tuple .. are MtR facts of 06m -/
end
end L2

namespace L2
open PySem PySem.Spec PyProof.Rows

def MtM (X : Cx) (id : String) (r : V → List V → Hp → VK → Prop) : Prop :=
  ∀ (pins : List (Addr × Obj)) (s : Shared) (σ : St) (H : Hp) (x : V) (xs : List V) (v : Value) (us : List Value) (Q : VK), Inv X pins σ H s → RelV x v → Vals xs us → r x xs H Q →
    wpAny (model X.prog X.w) X.A (call (.builtin id) (v :: us)) (EP X pins σ Q) X.xe s

/-! ### lists of values -/
theorem Vals.one : ∀ {x : V} {us : List Value}, Vals [x] us → ∃ u, us = [u] ∧ RelV x u
  | _, _, .cons r .nil => ⟨_, rfl, r⟩
theorem Vals.eraseIdx : ∀ {xs : List V} {us : List Value} (i : Nat), Vals xs us → Vals (xs.eraseIdx i) (us.eraseIdx i)
  | _, _, _, .nil => .nil
  | _, _, 0, .cons _ t => t
  | _, _, i + 1, .cons r t => .cons r (Vals.eraseIdx i t)
theorem len_erase {α : Type} : ∀ (l : List α) (i : Nat), (l.eraseIdx i).length ≤ l.length
  | [], _ => Nat.le_refl _
  | _ :: _, 0 => Nat.le_succ _
  | _ :: r, i + 1 => Nat.succ_le_succ (len_erase r i)

section
variable {X : Cx} {pins : List (Addr × Obj)} {σ : St} {H : Hp} {s : Shared} {l b : Addr} {xs ys zs : List V}

/-! ### the two steps: a tracked list is rewritten, a new list is laid -/
theorem Inv.lset {its its' : List Value} {n : Nat} {f : Array Value → Array Value} {t' : Nat} (I : Inv X pins σ H s) (hH : H l = some (.lst xs))
    (e : s.heap.get? l = some { cls := .type "list", data := .seq its.toArray n }) (hf : f its.toArray = its'.toArray) (hv : Vals ys its') (hz : ys.length ≤ sizeLine) :
    Inv X pins σ (upd H l (.lst ys)) { s with heap := s.heap.update l (Obj.mapSeq f), toks := t' } := by
  have q := PySem.IsL.update e f
  rw [hf] at q
  refine I.write (x := l) (e := l) (by rw [hH]; exact trivial) (.inl rfl) (fun b' u hb hu => (Heap.get?_update_other s.heap (Obj.mapSeq f) (Ne.symm hb)).trans hu) ⟨_, q⟩ ?_
  exact ⟨hz, its', _, hv, q⟩
theorem Inv.lstM (I : Inv X pins σ H s) (hH : H l = some (.lst xs)) : xs.length ≤ sizeLine ∧ ∃ (its : List Value) (n : Nat), Vals xs its ∧ xs.length = its.length ∧ s.heap.get? l = some { cls := .type "list", data := .seq its.toArray n } := by
  obtain ⟨z, its, n, r, e⟩ := I.hok l _ hH
  exact ⟨z, its, n, r, r.length, e⟩

end

section
variable {X : Cx}

/-! ### methods -/
def rAppend : V → List V → Hp → VK → Prop := fun x vs H Q => ∃ l xs y, x = .ref l ∧ vs = [y] ∧ H l = some (.lst xs) ∧ xs.length < sizeLine ∧ Q .non (upd H l (.lst (xs ++ [y])))
theorem mt_append : MtM X "list.append" rAppend := by
  intro pins s σ H x vs v us Q I rx rv h
  obtain ⟨l, xs, y, rfl, rfl, hH, hz, q⟩ := h
  cases rx
  obtain ⟨u, rfl, ru⟩ := rv.one
  obtain ⟨z, its, n, r, hl, e⟩ := I.lstM hH
  refine call_meets F.slot_list_append ⟨_, e, rfl⟩ F.entry_list_append (F.args_list_append_2 _ _) (PySem.list_append l its.toArray n u (by rw [List.size_toArray]; omega)) ⟨e, ?_⟩
  refine ⟨.non, _, I.lset (its' := its ++ [u]) hH e (by simp) (r.append (.cons ru .nil)) ?_, rfl, q⟩
  rw [List.length_append, List.length_singleton]
  omega

def rExtend : V → List V → Hp → VK → Prop := fun x vs H Q => ∃ l b xs zs, x = .ref l ∧ vs = [.ref b] ∧ H l = some (.lst xs) ∧ H b = some (.lst zs) ∧ xs.length + zs.length ≤ sizeLine ∧ Q .non (upd H l (.lst (xs ++ zs)))

def rPop : V → List V → Hp → VK → Prop := fun x vs H Q => ∃ l xs y, x = .ref l ∧ vs = [] ∧ H l = some (.lst xs) ∧ xs[xs.length - 1]? = some y ∧ Q y (upd H l (.lst xs.dropLast))

def rPopAt : V → List V → Hp → VK → Prop := fun x vs H Q => ∃ l xs i k y, x = .ref l ∧ vs = [.int i] ∧ H l = some (.lst xs) ∧ -(2 ^ 63) ≤ i ∧ i < 2 ^ 63 ∧ seqIndex? i xs.length = some k ∧ xs[k]? = some y ∧ Q y (upd H l (.lst (xs.eraseIdx k)))
theorem mt_popAt : MtM X "list.pop" rPopAt := by
  intro pins s σ H x vs v us Q I rx rv h
  obtain ⟨l, xs, i, k, y, rfl, rfl, hH, h1, h2, hk, hy, q⟩ := h
  cases rx
  obtain ⟨u, rfl, ru⟩ := rv.one
  obtain ⟨t, rfl⟩ := ru
  obtain ⟨z, its, n, r, hl, e⟩ := I.lstM hH
  obtain ⟨w, hw, rw'⟩ := r.get hy
  refine call_meets F.slot_list_pop ⟨_, e, rfl⟩ F.entry_list_pop (F.args_list_pop_2 _ _)
    (MeetsSeq.list_pop_at l its.toArray n i t k w (fitsIndex_both h1 h2) (by rw [List.size_toArray, ← hl]; exact hk) (by rw [← Array.getElem?_toList]; exact hw) (by rw [List.size_toArray]; omega)) ⟨e, ?_⟩
  refine ⟨y, _, I.lset (its' := its.eraseIdx k) hH e ?_ (r.eraseIdx k) ?_, rw', q⟩
  · show its.toArray.eraseIdxIfInBounds k = (its.eraseIdx k).toArray
    rw [List.eraseIdxIfInBounds_toArray]
  · have := len_erase xs k
    omega

def rReverse : V → List V → Hp → VK → Prop := fun x vs H Q => ∃ l xs, x = .ref l ∧ vs = [] ∧ H l = some (.lst xs) ∧ Q .non (upd H l (.lst xs.reverse))

def rClear : V → List V → Hp → VK → Prop := fun x vs H Q => ∃ l xs, x = .ref l ∧ vs = [] ∧ H l = some (.lst xs) ∧ Q .non (upd H l (.lst []))

/-! ### list + list, list += list, list * int -/
def rCat : R2 := fun x y H Q => ∃ l b xs zs, x = .ref l ∧ y = .ref b ∧ H l = some (.lst xs) ∧ H b = some (.lst zs) ∧ xs.length + zs.length ≤ sizeLine ∧ ∀ p, H p = none → Q (.ref p) (upd H p (.lst (xs ++ zs)))
/-- a list times an int (a negative one is nothing) -/
def rRep : R2 := fun x y H Q => ∃ l k xs, x = .ref l ∧ y = .int k ∧ H l = some (.lst xs) ∧ -(2 ^ 63) ≤ k ∧ k < 2 ^ 63 ∧ xs.length * k.toNat ≤ sizeLine ∧
  ∀ p, H p = none → Q (.ref p) (upd H p (.lst (List.replicate k.toNat xs).flatten))

/-! ### del xs[i] -/
end

/-! ### xs[a:b] = ys -/
section
variable {prog : Program} {w : World} {A : Around} {E : Value → Shared → Prop} {s : Shared}
end

section
variable {X : Cx}
end
end L2

namespace L2
open PySem PySem.Spec PyProof.Rows

/-! ### lists of pairs as tables -/
section
variable {κ : Type} [DecidableEq κ]
def valV (kvs : List (κ × V)) (k : κ) : Option V := (kvs.find? fun kv => decide (kv.1 = k)).map (·.2)
/-- in its place, or at the end -/
def putK (kvs : List (κ × V)) (k : κ) (v : V) : List (κ × V) :=
  if (kvs.any fun kv => decide (kv.1 = k)) = true then kvs.map (fun kv => if kv.1 = k then (kv.1, v) else kv) else kvs ++ [(k, v)]
def dropK (kvs : List (κ × V)) (k : κ) : List (κ × V) := kvs.filter fun kv => decide (kv.1 ≠ k)

theorem valV_pos {p : κ × V} {r : List (κ × V)} {k : κ} (e : p.1 = k) : valV (p :: r) k = some p.2 := by simp [valV, List.find?_cons, e]
theorem valV_neg {p : κ × V} {r : List (κ × V)} {k : κ} (e : ¬ p.1 = k) : valV (p :: r) k = valV r k := by simp [valV, List.find?_cons, e]
theorem valV_any (k : κ) : ∀ kvs : List (κ × V), (kvs.any fun kv => decide (kv.1 = k)) = (valV kvs k).isSome
  | [] => rfl
  | p :: r => by
    rw [List.any_cons]
    by_cases e : p.1 = k
    · simp only [valV_pos e, decide_eq_true e, Bool.true_or, Option.isSome_some]
    · rw [valV_neg e, decide_eq_false e, Bool.false_or]; exact valV_any k r
theorem valV_map (k j : κ) (y : V) : ∀ kvs : List (κ × V), valV (kvs.map fun kv => if kv.1 = k then (kv.1, y) else kv) j = (valV kvs j).map fun x => if j = k then y else x
  | [] => rfl
  | p :: r => by
    have ih := valV_map k j y r
    rw [List.map_cons]
    by_cases h : p.1 = k
    · rw [if_pos h]
      by_cases e : p.1 = j
      · rw [valV_pos (p := (p.1, y)) e, valV_pos e, Option.map_some, if_pos (e.symm.trans h)]
      · rw [valV_neg (p := (p.1, y)) e, valV_neg e, ih]
    · rw [if_neg h]
      by_cases e : p.1 = j
      · rw [valV_pos (p := p) e, valV_pos e, Option.map_some, if_neg (fun z => h (e.trans z))]
      · rw [valV_neg (p := p) e, valV_neg e, ih]
theorem valV_snoc (k j : κ) (y : V) : ∀ kvs : List (κ × V), valV kvs k = none → valV (kvs ++ [(k, y)]) j = if j = k then some y else valV kvs j
  | [], _ => by
    by_cases e : k = j
    · rw [if_pos e.symm]; exact valV_pos (p := (k, y)) e
    · rw [if_neg (fun z => e z.symm)]; exact valV_neg (p := (k, y)) e
  | p :: r, hn => by
    rw [List.cons_append]
    have hk : ¬ p.1 = k := fun z => by rw [valV_pos z] at hn; cases hn
    rw [valV_neg hk] at hn
    have ih := valV_snoc k j y r hn
    by_cases e : p.1 = j
    · rw [valV_pos e, valV_pos e, if_neg (fun z => hk (e.trans z))]
    · rw [valV_neg e, valV_neg e, ih]
theorem valV_put (kvs : List (κ × V)) (k j : κ) (y : V) : valV (putK kvs k y) j = if j = k then some y else valV kvs j := by
  unfold putK
  by_cases a : (kvs.any fun kv => decide (kv.1 = k)) = true
  · rw [if_pos a, valV_map]
    rw [valV_any] at a
    by_cases e : j = k
    · obtain ⟨x, hx⟩ := Option.isSome_iff_exists.mp a
      rw [if_pos e, e, hx, Option.map_some, if_pos rfl]
    · rw [if_neg e]
      cases valV kvs j with
      | none => rfl
      | some x => rw [Option.map_some, if_neg e]
  · rw [if_neg a]
    refine valV_snoc k j y kvs ?_
    rw [valV_any] at a
    cases q : valV kvs k with
    | none => rfl
    | some x => rw [q] at a; exact (a rfl).elim
theorem length_putK (kvs : List (κ × V)) (k : κ) (v : V) : (putK kvs k v).length ≤ kvs.length + 1 := by
  unfold putK
  split
  · rw [List.length_map]; omega
  · rw [List.length_append, List.length_cons, List.length_nil]; omega
theorem putK_new {kvs : List (κ × V)} {k : κ} (v : V) (h : valV kvs k = none) : putK kvs k v = kvs ++ [(k, v)] := by
  unfold putK
  rw [valV_any, h]
  exact if_neg (by decide)

theorem RelO.isSome_eq {o : Option V} {u : Option Value} (r : RelO o u) : o.isSome = u.isSome := by
  cases o with
  | none => cases u with
    | none => rfl
    | some _ => exact (show False from r).elim
  | some _ => cases u with
    | none => exact (show False from r).elim
    | some _ => rfl

/-- raw tables of the same keys -/
theorem KV.val {kvs : List (κ × V)} {vs : List (κ × Value)} (r : KV kvs vs) (k : κ) : RelO (valV kvs k) (valueAt vs k) := by
  unfold KV at r
  induction r with
  | nil => exact True.intro
  | @cons p q ps qs h t ih =>
    obtain ⟨h1, h2⟩ := h
    by_cases e : p.1 = k
    · have e' : q.1 = k := h1.symm.trans e
      have b : valueAt (q :: qs) k = some q.2 := by simp [valueAt, List.find?_cons, e']
      rw [valV_pos e, b]; exact h2
    · have e' : ¬ q.1 = k := fun z => e (h1.trans z)
      have b : valueAt (q :: qs) k = valueAt qs k := by simp [valueAt, List.find?_cons, e']
      rw [valV_neg e, b]; exact ih
theorem KV.any {kvs : List (κ × V)} {vs : List (κ × Value)} (r : KV kvs vs) (k : κ) : (kvs.any fun kv => decide (kv.1 = k)) = vs.any fun kv => decide (kv.1 = k) := by
  unfold KV at r
  induction r with
  | nil => rfl
  | cons h t ih => rw [List.any_cons, List.any_cons, ih, h.1]
theorem KV.repl {kvs : List (κ × V)} {vs : List (κ × Value)} (r : KV kvs vs) (k : κ) {y : V} {u : Value} (ry : RelV y u) :
    KV (kvs.map fun kv => if kv.1 = k then (kv.1, y) else kv) (vs.map fun kv => if kv.1 = k then (kv.1, u) else kv) := by
  unfold KV at r ⊢
  induction r with
  | nil => exact .nil
  | @cons p q ps qs h t ih =>
    rw [List.map_cons, List.map_cons]
    refine .cons ?_ ih
    obtain ⟨h1, h2⟩ := h
    by_cases e : p.1 = k
    · rw [if_pos e, if_pos (h1.symm.trans e)]; exact ⟨h1, ry⟩
    · rw [if_neg e, if_neg (fun z => e (h1.trans z))]; exact ⟨h1, h2⟩
theorem KV.put {kvs : List (κ × V)} {vs : List (κ × Value)} (r : KV kvs vs) (k : κ) {y : V} {u : Value} (ry : RelV y u) : KV (putK kvs k y) (stored vs k u) := by
  unfold putK stored
  rw [r.any k]
  by_cases e : (vs.any fun kv => decide (kv.1 = k)) = true
  · rw [if_pos e, if_pos e]; exact r.repl k ry
  · rw [if_neg e, if_neg e]; exact Paired.snoc r ⟨rfl, ry⟩
theorem KV.length {kvs : List (κ × V)} {vs : List (κ × Value)} (r : KV kvs vs) : kvs.length = vs.length := Paired.length r
end


/-! ### a tracked dict, its keys ints and texts or tuples of these -/
theorem kV_is {P : Program} {w : World} {k : Key} {u : Value} (r : RelV (kV k) u) : (mixKind P w).is k u = true := by
  cases k with
  | inl i => obtain ⟨t, e⟩ := (show ∃ t, u = Value.int i t from r); subst e; exact mixKind_int P w i t
  | inr x => obtain ⟨t, e⟩ := (show ∃ t, u = Value.str x t from r); subst e; exact mixKind_str P w x t
theorem items_are {P : Program} {w : World} : ∀ {ks : List Key} {us : List Value}, Vals (ks.map kV) us → ItemsAre (mixKind P w) ks us
  | [], _, r => by rw [List.map_nil] at r; cases r; exact .nil
  | k :: ks, _, r => by
    rw [List.map_cons] at r
    cases r with
    | cons h t => exact .cons (kV_is h) (items_are t)

/-- raw entries of a dict with tuple keys -/
abbrev KT (H : Hp) : List (List Key × V) → List (List Key × Addr × Value) → Prop := Paired fun p q => p.1 = q.1 ∧ H q.2.1 = some (.tup (p.1.map kV)) ∧ RelV p.2 q.2.2
theorem KT.val {H : Hp} {kvs : List (List Key × V)} {xs : List (List Key × Addr × Value)} (r : KT H kvs xs) (k : List Key) : RelO (valV kvs k) ((atKey xs k).map (·.2)) := by
  induction r with
  | nil => exact True.intro
  | @cons p q ps qs h t ih =>
    obtain ⟨h1, _, h2⟩ := h
    by_cases e : p.1 = k
    · have e' : q.1 = k := h1.symm.trans e
      have b : atKey (q :: qs) k = some q.2 := by simp [atKey, List.find?_cons, e']
      rw [valV_pos e, b]; exact h2
    · have e' : ¬ q.1 = k := fun z => e (h1.trans z)
      have b : atKey (q :: qs) k = atKey qs k := by simp [atKey, List.find?_cons, e']
      rw [valV_neg e, b]; exact ih
theorem KT.repl {H : Hp} {kvs : List (List Key × V)} {xs : List (List Key × Addr × Value)} (r : KT H kvs xs) (k : List Key) {y : V} {u : Value} (ry : RelV y u) :
    KT H (kvs.map fun kv => if kv.1 = k then (kv.1, y) else kv) (xs.map (putAt k u)) := by
  induction r with
  | nil => exact .nil
  | @cons p q ps qs h t ih =>
    rw [List.map_cons, List.map_cons]
    refine .cons ?_ ih
    obtain ⟨h1, h2, h3⟩ := h
    unfold putAt
    by_cases e : p.1 = k
    · rw [if_pos e, if_pos (h1.symm.trans e)]; exact ⟨h1, h2, ry⟩
    · rw [if_neg e, if_neg (fun z => e (h1.trans z))]; exact ⟨h1, h2, h3⟩
theorem KT.put {H : Hp} {kvs : List (List Key × V)} {xs : List (List Key × Addr × Value)} (r : KT H kvs xs) (k : List Key) {b : Addr} {y : V} {u : Value} (hb : H b = some (.tup (k.map kV))) (ry : RelV y u) :
    KT H (putK kvs k y) (storedH xs k b u) := by
  have e : (kvs.any fun kv => decide (kv.1 = k)) = (atKey xs k).isSome := by
    rw [valV_any, (r.val k).isSome_eq, Option.isSome_map]
  unfold putK storedH
  rw [e]
  by_cases q : (atKey xs k).isSome = true
  · rw [if_pos q, if_pos q]; exact r.repl k ry
  · rw [if_neg q, if_neg q]; exact Paired.snoc r ⟨rfl, hb, ry⟩
theorem KT.keeps {H H' : Hp} {kvs : List (List Key × V)} {xs : List (List Key × Addr × Value)} (r : KT H kvs xs) (ht : ∀ b ys, H b = some (.tup ys) → H' b = some (.tup ys)) : KT H' kvs xs :=
  Paired.mapP r fun _ _ z => ⟨z.1, ht _ _ z.2.1, z.2.2⟩

section
variable {P : Program} {w : World} {H : Hp} {h : Heap} {a : Addr}
theorem rd_of {u : HO} (ok : HOk P w H h) (e : Rd H a u) : ObjOk P w H h a u := e.ok ok
theorem dk_rd {kvs : List (Key × V)} (ok : HOk P w H h) (e : Rd H a (.dK kvs)) : kvs.length ≤ sizeLine ∧ (a == sysModules) = false ∧ ∃ vs, KV kvs vs ∧ h.DictOf (mixKind P w) a vs :=
  show ObjOk P w H h a (.dK kvs) from rd_of ok e
theorem dk_of {kvs : List (Key × V)} (ok : HOk P w H h) (e : H a = some (.dK kvs)) : kvs.length ≤ sizeLine ∧ (a == sysModules) = false ∧ ∃ vs, KV kvs vs ∧ h.DictOf (mixKind P w) a vs := dk_rd ok (.inl e)
/-- a tracked tuple of ints and texts is a key -/
theorem key_of {ks : List Key} (ok : HOk P w H h) (e : H a = some (.tup (ks.map kV))) : (tupleKind (mixKind P w)).is h ks a := by
  obtain ⟨_, its, r, o, h1, h2, n, h3⟩ := (show ObjOk P w H h a (.tup (ks.map kV)) from ok a _ e)
  exact ⟨o, its.toArray, n, h1, h2, h3, by simpa using items_are r⟩
theorem dt_rd {kvs : List (List Key × V)} (ok : HOk P w H h) (e : Rd H a (.dT kvs)) : kvs.length ≤ sizeLine ∧ (a == sysModules) = false ∧
    ∃ xs, KT H kvs xs ∧ h.DictOfH (tupleKind (mixKind P w)) a xs := by
  obtain ⟨z, y, xs, r, o, es, ep, h1, h2, h3, h4, h5⟩ := (show ObjOk P w H h a (.dT kvs) from rd_of ok e)
  refine ⟨z, y, xs, r, o, es, ep, h1, h2, h3, h4, fun x hx => ?_, h5⟩
  have all : ∀ {l : List (List Key × V)} {m : List (List Key × Addr × Value)}, KT H l m → ∀ x ∈ m, (tupleKind (mixKind P w)).is h x.1 x.2.1 := by
    intro l m q
    induction q with
    | nil => intro x hx; exact nomatch hx
    | @cons p q ps qs hq t ih =>
      intro x hx
      rcases List.mem_cons.mp hx with e | hx
      · subst e
        exact key_of ok (by rw [← hq.1]; exact hq.2.1)
      · exact ih x hx
  exact all r x hx
theorem dt_of {kvs : List (List Key × V)} (ok : HOk P w H h) (e : H a = some (.dT kvs)) : kvs.length ≤ sizeLine ∧ (a == sysModules) = false ∧
    ∃ xs, KT H kvs xs ∧ h.DictOfH (tupleKind (mixKind P w)) a xs := dt_rd ok (.inl e)
end

/-- what the dict at a holds at the key y -/
def DGet (H : Hp) (a : Addr) (y : V) (r : Option V) : Prop :=
  (∃ kvs k, Rd H a (.dK kvs) ∧ y = kV k ∧ r = valV kvs k) ∨ ∃ kvs k b, Rd H a (.dT kvs) ∧ y = .ref b ∧ H b = some (.tup (k.map kV)) ∧ r = valV kvs k
/-- the heap behind a[y] = v -/
def DPut (H : Hp) (a : Addr) (y v : V) (H' : Hp) : Prop :=
  (∃ kvs k, H a = some (.dK kvs) ∧ y = kV k ∧ kvs.length < sizeLine ∧ H' = upd H a (.dK (putK kvs k v))) ∨
  ∃ kvs k b, H a = some (.dT kvs) ∧ y = .ref b ∧ H b = some (.tup (k.map kV)) ∧ kvs.length < sizeLine ∧ H' = upd H a (.dT (putK kvs k v))
theorem DGet.k {H : Hp} {a : Addr} {kvs : List (Key × V)} {k : Key} (e : H a = some (.dK kvs)) : DGet H a (kV k) (valV kvs k) := .inl ⟨kvs, k, .inl e, rfl, rfl⟩
theorem DPut.k {H : Hp} {a : Addr} {kvs : List (Key × V)} {k : Key} {v : V} (e : H a = some (.dK kvs)) (hl : kvs.length < sizeLine) : DPut H a (kV k) v (upd H a (.dK (putK kvs k v))) := .inl ⟨kvs, k, e, rfl, hl, rfl⟩


section
variable {X : Cx} {pins : List (Addr × Obj)} {σ : St} {H : Hp} {s : Shared} {a : Addr} {y v : V} {u r : Value} {o : Option V} {A : Around} {E : Value → Shared → Prop}

theorem Inv.big (I : Inv X pins σ H s) : sysModules < s.heap.objs.size := by
  have h : mainGlobals < s.heap.objs.size := (I.mod.glob.keeps I.bk).lt
  exact Nat.lt_trans (by decide) h

/-- d[y], there -/
theorem d_getItem {Q : Value → Shared → Prop} (hu : A.units + 1 < cLine) (I : Inv X pins σ H s) (g : DGet H a y (some v)) (ry : RelV y u) (h : ∀ w' s', Inv X pins σ H s' → RelV v w' → Q w' s') :
    wpAny (model X.prog X.w) A (getItem (.ref a) u) Q E s := by
  rcases g with ⟨kvs, k, e, ey, l⟩ | ⟨kvs, k, b, e, ey, eb, l⟩
  · subst ey
    obtain ⟨z, hd, vs, rel, dd⟩ := dk_rd I.hok e
    obtain ⟨w', hw, rw'⟩ := RelO.some_of (v := v) (o := valueAt vs k) (by rw [l]; exact rel.val k)
    exact wpAny_getItem_of (kV_is ry) dd.mapOf hw (h w' _ (I.tok _) rw')
  · subst ey
    cases (show u = Value.ref b from ry)
    obtain ⟨z, hd, xs, rel, dd⟩ := dt_rd I.hok e
    obtain ⟨w', hw, rw'⟩ := RelO.some_of (v := v) (o := (atKey xs k).map (·.2)) (by rw [l]; exact rel.val k)
    obtain ⟨p, hp, hp2⟩ := Option.map_eq_some_iff.mp hw
    refine wpAny_getItem_heap (tupleKind_room_in1 hu) (key_of I.hok eb) dd hp ?_
    rw [hp2]
    exact h w' _ (I.tok _) rw'
theorem d_notIn {Q : Value → Shared → Prop} (hu : A.units + 1 < cLine) (I : Inv X pins σ H s) (g : DGet H a y o) (ry : RelV y u) (h : ∀ s', Inv X pins σ H s' → Q (.bool (!o.isSome)) s') :
    wpAny (model X.prog X.w) A (compareOp .NotIn u (.ref a)) Q E s := by
  rcases g with ⟨kvs, k, e, ey, l⟩ | ⟨kvs, k, b, e, ey, eb, l⟩
  · subst ey
    obtain ⟨z, hd, vs, rel, dd⟩ := dk_rd I.hok e
    refine wpAny_notIn_of (kV_is ry) hd dd.mapOf ?_
    rw [← (rel.val k).isSome_eq, ← l]
    exact h _ (I.tok _)
  · subst ey
    cases (show u = Value.ref b from ry)
    obtain ⟨z, hd, xs, rel, dd⟩ := dt_rd I.hok e
    refine wpAny_notIn_heap (tupleKind_room_in1 hu) (key_of I.hok eb) hd dd ?_
    have q := (rel.val k).isSome_eq
    rw [Option.isSome_map] at q
    rw [← q, ← l]
    exact h _ (I.tok _)
/-- a dict's object is replaced -/
theorem d_write {h' : Heap} {t' : Nat} {ob : HO} (I : Inv X pins σ H s) (mu : Mut (H a)) (hs : Heap.SameBut a s.heap h') (he : ∃ q, h'.get? a = some q) (new : ObjOk X.prog X.w (upd H a ob) h' a ob) :
    Inv X pins σ (upd H a ob) { s with heap := h', toks := t' } :=
  I.write (x := a) (e := a) mu (.inl rfl) (fun b q hb z => (hs.2 b hb).trans z) he new
theorem dk_new {P : Program} {w : World} {H' : Hp} {h' : Heap} {kvs : List (Key × V)} {vs : List (Key × Value)} (z : kvs.length ≤ sizeLine) (hd : (a == sysModules) = false) (rel : KV kvs vs) (dd : h'.DictOf (mixKind P w) a vs) :
    ObjOk P w H' h' a (.dK kvs) := ⟨z, hd, vs, rel, dd⟩
/-- d[y] = v -/
theorem d_setItem {H' : Hp} {Q : Unit → Shared → Prop} (hu : A.units + 1 < cLine) (I : Inv X pins σ H s) (g : DPut H a y v H') (ry : RelV y u) (rv : RelV v r) (h : ∀ s', Inv X pins σ H' s' → Q () s') :
    wpAny (model X.prog X.w) A (setItem (.ref a) u r) Q E s := by
  rcases g with ⟨kvs, k, e, ey, l, eH⟩ | ⟨kvs, k, b, e, ey, eb, l, eH⟩
  · subst ey eH
    obtain ⟨z, hd, vs, rel, dd⟩ := dk_of I.hok e
    have hz : vs.length ≤ sizeLine := by rw [← rel.length]; exact z
    have hl : (putK kvs k v).length ≤ sizeLine := by have := length_putK kvs k v; omega
    refine wpAny_setItem_pairs (hsz := hz) (kV_is ry) dd fun h' dd' hs => h _ ?_
    have he : ∃ q, h'.get? a = some q := let ⟨q, _, _, hq, _⟩ := dd'; ⟨q, hq⟩
    exact d_write I (by rw [e]; exact True.intro) hs he (dk_new hl hd (rel.put k rv) dd')
  · subst ey eH
    cases (show u = Value.ref b from ry)
    obtain ⟨z, hd, xs, rel, dd⟩ := dt_of I.hok e
    have hz : xs.length ≤ sizeLine := by rw [← Paired.length rel]; exact z
    have hl : (putK kvs k v).length ≤ sizeLine := by have := length_putK kvs k v; omega
    refine wpAny_setItem_heap (hsz := hz) (tupleKind_room_in1 hu) (key_of I.hok eb) dd fun h' dd' hs => h _ ?_
    obtain ⟨q, es, ep, hq, h2, h3, h4, _, h5⟩ := dd'
    refine d_write I (by rw [e]; exact True.intro) hs ⟨q, hq⟩ ⟨hl, hd, _, (rel.put k eb rv).keeps fun c ys ec => ?_, q, es, ep, hq, h2, h3, h4, h5⟩
    rw [upd_ne (ne_of ec e (fun z => nomatch z))]
    exact ec
end

section
variable {X : Cx} {pins : List (Addr × Obj)} {σ : St} {H : Hp} {s : Shared} {a : Addr} {kvs : List (Key × V)} {k : Key} {u : Value} {A : Around} {E : Value → Shared → Prop}
end


/-! ### readings and rules -/
/-- the element of a subscription, not a slice -/
def NoSl (i : Expr) : Prop := ∀ ov iv, subscripted i false ov iv = operate [ov, iv] (getItem ov iv)
theorem subD_of {prog : Program} {w : World} {A : Around} {E : Value → Shared → Prop} {s : Shared} {env : Env} {value slice : Expr} {pos : Pos} {T id : String} {Q : Value → Shared → Prop}
    (hl : typeLookup (.type T) "__getitem__" = pure (some (.builtin id))) (hs : NoSl slice)
    (h : wpAny (model prog w) A (eval value env) (fun o s₁ => wpAny (model prog w) A (eval slice env) (fun i s₂ => s₂.TypeIs o T ∧ wpAny (model prog w) A (getItem o i) Q E s₂) E s₁) E s) :
    wpAny (model prog w) A (eval (.Subscript value slice pos) env) Q E s := by
  refine Subscript_ (wpAny_mono h (fun o s₁ h₁ => wpAny_mono h₁ (fun i s₂ h₂ => ?_) fun _ _ x => x) fun _ _ x => x)
  obtain ⟨hT, h₂⟩ := h₂
  unfold subscriptTail
  refine wpAny_bind ?_
  rw [getitemInPython_of_ne hT.not_modules]
  refine wpAny_bind (wpAny_specialOf hT hl ?_)
  have fin : wpAny (model prog w) A (subscripted slice false o i) (fun r s₃ => wpAny (model prog w) A (letTemporaryGo value o r >>= fun _ => pure r) Q E s₃) E s₂ := by
    rw [hs o i]
    exact wpAny_operating (wpAny_mono h₂ (fun r s₃ h₃ => wpAny_bind (wpAny_letTemporaryGo (wpAny_pure h₃))) fun _ _ x => x)
  first
    | exact wpAny_pure (wpAny_bind fin)
    | exact wpAny_bind (wpAny_pure (wpAny_bind fin))
    | exact wpAny_bind fin

theorem dict_typeIs {X : Cx} {pins : List (Addr × Obj)} {σ : St} {H : Hp} {s : Shared} {a : Addr} {y : V} {o : Option V} (I : Inv X pins σ H s) (g : DGet H a y o) : s.TypeIs (.ref a) "dict" := by
  rcases g with ⟨kvs, k, e, _, _⟩ | ⟨kvs, k, b, e, _, _, _⟩
  · obtain ⟨_, _, vs, _, dd⟩ := dk_rd I.hok e
    exact dd.typeIs
  · obtain ⟨_, _, xs, _, dd⟩ := dt_rd I.hok e
    exact dd.typeIs

/-- d[y] -/
def tDGet (td ty : TE) : TE := fun σ H Q => td σ H fun x H1 => ty σ H1 fun y H2 => ∃ a v, x = .ref a ∧ DGet H2 a y (some v) ∧ Q v H2
/-- y in d, y not in d -/
def tDIn (ty td : TE) : TE := fun σ H Q => ty σ H fun y H1 => td σ H1 fun x H2 => ∃ a o, x = .ref a ∧ DGet H2 a y o ∧ Q (.bl o.isSome) H2
def tDNotIn (ty td : TE) : TE := fun σ H Q => ty σ H fun y H1 => td σ H1 fun x H2 => ∃ a o, x = .ref a ∧ DGet H2 a y o ∧ Q (.bl (!o.isSome)) H2
/-- d[y] = v -/
def sDPut (td ty tv : TE) : TS := fun D σ H => tv σ H fun v H1 => td σ H1 fun x H2 => ty σ H2 fun y H3 => ∃ a H4, x = .ref a ∧ DPut H3 a y v H4 ∧ D.nx σ H4
/-- d[y] op= v -/
def sDAug (td ty tv : TE) (rd : V → V → Hp → VK → Prop) : TS := fun D σ H => td σ H fun x H1 => ty σ H1 fun y H2 => ∃ a v, x = .ref a ∧ DGet H2 a y (some v) ∧
  tv σ H2 fun y2 H3 => rd v y2 H3 fun z H4 => ∃ H5, DPut H4 a y z H5 ∧ D.nx σ H5
/-- del d[y] -/
def sDDel (td ty : TE) : TS := fun D σ H => td σ H fun x H1 => ty σ H1 fun y H2 => ∃ a kvs k, x = .ref a ∧ H2 a = some (.dK kvs) ∧ y = kV k ∧ (valV kvs k).isSome = true ∧ D.nx σ (upd H2 a (.dK (dropK kvs k)))

section
variable {X : Cx} {o i e value : Expr} {pos pos' tpos : Pos} {td ty tv : TE}
theorem pe_dget (hu : X.A.units + 1 < cLine) (ho : PE X o td) (hi : PE X i ty) (hs : NoSl i) : PE X (.Subscript o i pos) (tDGet td ty) := by
  intro pins s σ H Q I h
  refine subD_of PySem.F.slot_dict_getitem.lookup hs (thn (ho pins s σ H _ I h) fun u s1 ⟨x, H1, I1, rx, q1⟩ => thn (hi pins s1 σ H1 _ I1 q1) fun iv s2 ⟨y, H2, I2, ry, a, v, ex, g, q2⟩ => ?_)
  subst ex
  obtain rfl : u = Value.ref a := rx
  exact ⟨dict_typeIs I2 g, d_getItem hu I2 g ry fun w' s3 I3 rw' => ⟨v, H2, I3, rw', q2⟩⟩
theorem pc_dnotin (hu : X.A.units + 1 < cLine) (hi : PE X i ty) (ho : PE X o td) : PC X .NotIn i o (tDNotIn ty td) := by
  intro pins s σ H Q I h
  refine thn (hi pins s σ H _ I h) fun iv s1 ⟨y, H1, I1, ry, q1⟩ => thn (ho pins s1 σ H1 _ I1 q1) fun u s2 ⟨x, H2, I2, rx, a, ov, ex, g, q2⟩ => ?_
  subst ex
  obtain rfl : u = Value.ref a := rx
  exact d_notIn hu I2 g ry fun s3 I3 => ⟨.bl (!ov.isSome), H2, I3, rfl, q2⟩
theorem ps_dput (hu : X.A.units + 1 < cLine) (ho : PE X o td) (hi : PE X i ty) (hv : PE X value tv) (hs : swapsWith value (some (.Subscript o i pos')) pos.line X.env = pure false) :
    PS X (.Assign [.Subscript o i pos'] value pos) (sDPut td ty tv) := by
  intro pins s σ H D I h
  refine wpAny_Assign_Subscript (thn (hv pins s σ H _ I h) fun r s1 ⟨v, H1, I1, rv, q1⟩ => thn (ho pins s1 σ H1 _ I1 q1) fun u s2 ⟨x, H2, I2, rx, q2⟩ => thn (hi pins s2 σ H2 _ I2 q2) fun iv s3 ⟨y, H3, I3, ry, a, H4, ex, g, q3⟩ => ?_) hs
  subst ex
  obtain rfl : u = Value.ref a := rx
  exact d_setItem hu I3 g ry rv fun s4 I4 => ⟨σ, H4, I4, q3⟩
end


/-! ### displays -/
theorem dk_empty {P : Program} {w : World} {H : Hp} (h : Heap) (hb : sysModules < h.objs.size) : ObjOk P w H (h.push { cls := .type "dict", data := .dict #[] }) h.objs.size (.dK []) :=
  ⟨Nat.zero_le _, beq_eq_false_iff_ne.mpr (Ne.symm (Nat.ne_of_lt hb)), [], .nil, Heap.DictOf.new h⟩
/-- {}, to be a dict of the kind that is wanted -/
def tDNewK : TE := fun _ H Q => ∀ p, H p = none → Q (.ref p) (upd H p (.dK []))
def tDNewT : TE := fun _ H Q => ∀ p, H p = none → Q (.ref p) (upd H p (.dT []))
section
variable {X : Cx} {pos : Pos}
theorem pe_dnewK : PE X (.Dict [] [] pos) tDNewK := fun pins s σ H Q I h =>
  wpAny_Dict_empty ⟨.ref s.heap.objs.size, _, I.laid (a := s.heap.objs.size) (o := .dK []) (t' := s.toks) (fun _ _ q => Heap.get?_push_of_some _ q) (Nat.le_refl _) (dk_empty s.heap I.big), rfl, h _ (I.hok.fresh (Nat.le_refl _))⟩
end

/-- the pairs of a display, from the left -/
def tPairs : List (TE × TE) → St → Hp → (List (V × V) → Hp → Prop) → Prop
  | [], _, H, Q => Q [] H
  | (tk, tv) :: r, σ, H, Q => tk σ H fun x H1 => tv σ H1 fun y H2 => tPairs r σ H2 fun ps H3 => Q ((x, y) :: ps) H3
abbrev VV : List (V × V) → List (Value × Value) → Prop := Paired fun p q => RelV p.1 q.1 ∧ RelV p.2 q.2
def PPs (X : Cx) (pos : Pos) (keys : List (Option Expr)) (values : List Expr) (trs : List (TE × TE)) : Prop :=
  ∀ (pins : List (Addr × Obj)) (s : Shared) (σ : St) (H : Hp) (Q : List (V × V) → Hp → Prop), Inv X pins σ H s → tPairs trs σ H Q →
    wpAny (model X.prog X.w) X.A (evalPairs (pairTrees keys values X.env pos)) (fun vs s' => ∃ ps H', Inv X pins σ H' s' ∧ VV ps vs ∧ Q ps H') X.xe s

def mergeK (kvs more : List (Key × V)) : List (Key × V) := more.foldl (fun acc kv => putK acc kv.1 kv.2) kvs
/-- {k: v, ..} with keys ints and texts; the new dict stands empty while the pairs are made -/
def tDisp (trs : List (TE × TE)) : TE := fun σ H Q => ∀ p, H p = none → tPairs trs σ (upd H p (.dK [])) fun ps H2 => H2 p = some (.dK []) ∧ ∃ kvs : List (Key × V), ps = kvs.map (fun kv => (kV kv.1, kv.2)) ∧ kvs.length ≤ 15 ∧ Q (.ref p) (upd H2 p (.dK (mergeK [] kvs)))


/-! ### methods -/
/-- a method call o.m(e) of a built-in, with one argument: what must be seen of the text -/
structure M1 (X : Cx) (o : Expr) (m : Str) (apos : Pos) (e : Expr) (cpos : Pos) : Prop where
  base : attributeBase o m X.env (eval o X.env) = eval o X.env
  few : ((backTo cpos (starEach [e] X.env)).all (fun x => !x.1) && (backToKw cpos (keywordEach [] X.env)).all (fun x => x.1.isSome)
    && decide (([e] : List Expr).length + ([] : List Keyword).length + (if ([] : List Keyword).isEmpty then 0 else 1) < 30)) = true
  line : (apos.endLine == cpos.line) = true
  trees : backTo cpos (starEach [e] X.env) = [(false, eval e X.env)]
structure M2 (X : Cx) (o : Expr) (m : Str) (apos : Pos) (e f : Expr) (cpos : Pos) : Prop where
  base : attributeBase o m X.env (eval o X.env) = eval o X.env
  few : ((backTo cpos (starEach [e, f] X.env)).all (fun x => !x.1) && (backToKw cpos (keywordEach [] X.env)).all (fun x => x.1.isSome)
    && decide (([e, f] : List Expr).length + ([] : List Keyword).length + (if ([] : List Keyword).isEmpty then 0 else 1) < 30)) = true
  line : (apos.endLine == cpos.line) = true
  trees : backTo cpos (starEach [e, f] X.env) = [(false, eval e X.env), (false, eval f X.env)]

/-- a is a dict, whatever its keys -/
def IsD (H : Hp) (a : Addr) : Prop := (∃ kvs, Rd H a (.dK kvs)) ∨ ∃ kvs, Rd H a (.dT kvs)

section
variable {X : Cx} {pins : List (Addr × Obj)} {σ : St} {H : Hp} {s : Shared} {a : Addr} {y d : V} {u r : Value} {o : Option V} {A : Around} {E : Value → Shared → Prop}
end

def tDGet1 (td ty : TE) : TE := fun σ H Q => td σ H fun x H1 => ∃ a, x = .ref a ∧ IsD H1 a ∧ ty σ H1 fun y H2 => ∃ o, DGet H2 a y o ∧ Q (o.getD .non) H2
def tDGet2 (td ty tx : TE) : TE := fun σ H Q => td σ H fun x H1 => ∃ a, x = .ref a ∧ IsD H1 a ∧ ty σ H1 fun y H2 => tx σ H2 fun z H3 => ∃ o, DGet H3 a y o ∧ Q (o.getD z) H3
/-- d.pop(k): there; d.pop(k, x): there or not -/
def tDPop1 (td ty : TE) : TE := fun σ H Q => td σ H fun x H1 => ∃ a, x = .ref a ∧ IsD H1 a ∧ ty σ H1 fun y H2 => ∃ kvs k v, H2 a = some (.dK kvs) ∧ y = kV k ∧ valV kvs k = some v ∧ Q v (upd H2 a (.dK (dropK kvs k)))
def tDPop2 (td ty tx : TE) : TE := fun σ H Q => td σ H fun x H1 => ∃ a, x = .ref a ∧ IsD H1 a ∧ ty σ H1 fun y H2 => tx σ H2 fun z H3 => ∃ kvs k, H3 a = some (.dK kvs) ∧ y = kV k ∧
  (∀ v, valV kvs k = some v → Q v (upd H3 a (.dK (dropK kvs k)))) ∧ (valV kvs k = none → Q z H3)
section
variable {X : Cx} {o e f : Expr} {apos cpos : Pos} {td ty tx : TE}
end

/-! ### dict(d): a copy -/
section
variable {X : Cx} {pins : List (Addr × Obj)} {σ : St} {H : Hp} {s : Shared} {a : Addr} {kvs : List (Key × V)} {A : Around} {E : Value → Shared → Prop}
end


section
variable {X : Cx} {pins : List (Addr × Obj)} {σ : St} {H : Hp} {s : Shared} {a : Addr} {y : V} {u : Value} {A : Around} {E : Value → Shared → Prop}
end
end L2

namespace Att
open PySem PySem.W PySem.Calls PyProof.Rows

/-! ### the script -/
theorem ints_of_wellAll {P : Params} {h : Heap} : ∀ (ns : List Int) (vs : List Value), WellAll P h vs (ns.map WData.int) → IntsAre vs ns := by
  intro ns
  induction ns with
  | nil =>
    intro vs w
    rw [List.map_nil] at w
    cases w
    exact .nil
  | cons n ns ih =>
    intro vs w
    rw [List.map_cons] at w
    cases w with
    | cons a b =>
      cases a
      exact .cons _ _ (ih _ b)

theorem script_of {l : OpenLaw} {n : Nat} (hn : l.most = some n) {P : Params} {h : Heap} {args : List WData} {vals : List Value}
    (hpre : l.row.toRowW.claim.pre args = true) (hwl : WellAll P h vals args) :
    ∃ a vs ns, vals = [Value.ref a] ∧ args = [WData.list (ns.map WData.int)] ∧ h.get? a = some { cls := .type "list", data := .seq vs.toArray } ∧ IntsAre vs ns ∧ ns.length ≤ n := by
  have hsh : WShape.hasAll [] args [.list .int] = true := (pre_splitW hpre).1
  have hc : l.pre.holds [] { args := args } = true := (pre_splitW hpre).2
  obtain ⟨d, r, rfl, h1, h2⟩ := hasAllW_cons hsh
  obtain rfl := hasAllW_nil h2
  obtain ⟨xs, rfl, h3⟩ := hasW_list h1
  obtain ⟨ns, rfl⟩ := items_int h3
  have hlen : ns.length ≤ n := by
    unfold OpenLaw.pre at hc
    have h4 : (WTm.not (.lt (.lit (.int (n : Int))) (.len (.arg 0)))).holds [] { args := [.list (ns.map .int)] } = true := by
      have h4 := (holds_andW hc).1
      rw [hn] at h4
      exact h4
    have h5 := condW_of h4 (w_not (w_lt w_lit (w_len_list (w_arg rfl))))
    rw [List.length_map] at h5
    refine Nat.le_of_not_lt fun q => ?_
    have q' : (n : Int) < ((ns.length : Nat) : Int) := by omega
    first
      | (rw [decide_eq_true q'] at h5; exact absurd h5 (by decide))
      | (simp at h5; omega)
  cases hwl with
  | cons w1 w2 =>
    cases w2
    cases w1 with
    | list ho hall => exact ⟨_, _, ns, rfl, rfl, ho, ints_of_wellAll ns _ hall, hlen⟩

theorem post_true (l : OpenLaw) (args : List WData) : l.row.toRowW.claim.post args (.bool true) args = true :=
  postW_of (r := l.row.toRowW) (X := (true == true))
    (show WShape.has [] (.bool true) .bool = true by first | rfl | decide | simp [WShape.has, WShape.arms, WShape.armsAll])
    (show (WTm.eq .res (.lit (.bool true))).value [] { args := args, res := some (.bool true), after := args } = some (.bool (true == true)) from w_eq_bool (w_res rfl) w_lit) rfl

/-! ### the attachment: holds_open's last premise (the goal 'hc' behind k_head) from a wpAny of the law's body -/

/-- the same from a codeAny of the CALL (for a layer whose function contracts speak of calls) -/
theorem attach_call {l : OpenLaw} {n : Nat} {q : Program} {loose : List Str} {XP : (Str → Option Value) → Heap → Prop} {YP : World → Heap → Prop} {d : DefRec}
    (hn : l.most = some n) (hdf : d.params.defaults = [])
    (call : ∀ (w : World) (s₀ s₁ : Shared) (mg mb : Str → Option Value) (fa : Addr) (o : Obj) (pm cd doc : Value) (a : Addr) (vs : List Value) (ns : List Int),
      Ground q loose [] XP w s₀ mg mb s₁.heap → YP w s₁.heap →
      s₁.heap.get? fa = some o → o.data = .func (docDef d.name d.params d.body d.scope pm cd doc) → s₁.heap.CodeRec cd d.name → mg d.name = some (.ref fa) →
      s₁.heap.get? a = some { cls := .type "list", data := .seq vs.toArray } → IntsAre vs ns → ns.length ≤ n → s₁.gens = #[] →
      codeAny (model l.prog w) callerA (.call (.ref fa) ⟨[.ref a], []⟩) (fun r s' => r = .ok (.ret (.bool true)) ∧ OldK s₁.heap s'.heap ∧ s'.os = s₁.os ∧ AllBare s'.gens) s₁) :
    WalkO q loose XP YP l.row.toRowW d [] (fun f vs => PySem.call f vs) := by
  intro w s₀ s₁ mg mb G Y fa o pm cd doc dV kV ho hd hcd hD hmg hg args vals as hpre hlay hrd hwl hlo
  obtain rfl : dV = .none := Dflts.none hD hdf
  obtain rfl : kV = .none := Dflts.noKw hD
  obtain ⟨a, vs, ns, rfl, rfl, hobj, hints, hlen⟩ := script_of hn hpre hwl
  refine enter_call (codeAny_mono (call w s₀ s₁ mg mb fa o pm cd doc a vs ns G Y ho (fd_plain hd) hcd hmg hobj hints hlen hg) fun r s' hq => ?_)
  obtain ⟨rfl, h2, h3, h4⟩ := hq
  exact ⟨.inl ⟨.bool true, .bool true, [], rfl, fun _ => rfl, .bool true, post_true l _, fun _ => ⟨List.Pairwise.nil, fun _ hm => (nomatch hm)⟩⟩, h2, h3, h4⟩


/-! ### rules over ANY heap (no ledger) from facts about the written part K: the library's own take a ledger (News) for what they write -/
section
variable {prog : Program} {w : World} {A : Around} {E : Value → Shared → Prop} {s : Shared} {K : Frag}





/-! the whole heap as the ledger: makes every rule that writes through a ledger a rule over any heap -/
def noObjs (h : Heap) : Heap := { h with objs := #[] }
def ledger (h : Heap) (L d : Addr) : List (Addr × Obj) := (List.range h.objs.size).filterMap fun a => if a = L ∨ a = d then none else (h.get? a).map fun o => (a, o)

end
end Att

namespace L2
open PySem PySem.Spec PyProof.Rows

theorem vals_ints : ∀ {vs : List Value} {ns : List Int}, IntsAre vs ns → Vals (ns.map V.int) vs
  | _, _, .nil => .nil
  | _, _, .cons n t h => .cons ⟨t, rfl⟩ (vals_ints h)

/-- nothing is tracked but the script, known to the object (or it is an object of the module) -/
def Only (H : Hp) : Prop := ∀ b, H b = none ∨ ∃ o xs, H b = some (.frz o (.lst xs))

/-- THE HEAD: the law's promise, at the heap behind the top. F, the promise of the law's def, may use that base is part of the heap (so K.In base, base.Ns mainGlobals mg stand in Mod) -/
theorem law_call {P : Program} {w : World} {K : PySem.W.Frag} {mg mb : Str → Option Value} {CX : CXT} {k : Nat} {fa a : Addr} {fd : FuncData} {x : Str} {sp : Sp} {s₁ : Shared} {vs : List Value} {ns : List Int}
    (KX : K.In s₁.heap) (hns : s₁.heap.Ns mainGlobals mg) (hb : s₁.heap.Ns builtinsNs mb) (hbb : ∀ x : Str, x ≠ "__name__" → mb x = bootBuiltins x) (hlim : s₁.heap.NoLimit) (hg : s₁.gens = #[])
    (ha : s₁.heap.get? a = some { cls := .type "list", data := .seq vs.toArray }) (hi : IntsAre vs ns) (hl : ns.length ≤ sizeLine) (hr : Room k callerA)
    (F : ∀ base : Heap, K.In base → base.Ns mainGlobals mg → FnOk P w K mg base CX k fa fd [x] sp) (hbind : ∀ (s : Shared) (u : Value), BindsTo s fd ⟨[u], []⟩ [(x, u)])
    (hsp : ∀ H : Hp, Only H → SqL K H a (ns.map V.int) → sp [.ref a] H (fun v _ => v = .bl true) fun _ _ _ => False)
    (hCX : ∀ H e s', CX [] H s₁ (fun _ _ _ => False) e s' → False) :
    codeAny (model P w) callerA (.call (.ref fa) ⟨[.ref a], []⟩) (fun r s' => r = .ok (.ret (.bool true)) ∧ OldK s₁.heap s'.heap ∧ s'.os = s₁.os ∧ AllBare s'.gens) s₁ := by
  have rv := vals_ints hi
  have lenV := hi.length
  -- from an abstract heap in which nothing but the script may be tracked
  have core : ∀ H : Hp, Only H → SqL K H a (ns.map V.int) → HOk P w H s₁.heap → (∀ b, H b ≠ none → b = a) → (H a ≠ none → K.lookup a = none) →
      codeAny (model P w) callerA (.call (.ref fa) ⟨[.ref a], []⟩) (fun r s' => r = .ok (.ret (.bool true)) ∧ OldK s₁.heap s'.heap ∧ s'.os = s₁.os ∧ AllBare s'.gens) s₁ := by
    intro H hO hS hok hA hK
    have base_of : ∀ {b : Addr} {o : Obj}, s₁.heap.get? b = some o → H b = none → (hidT s₁.heap H).get? b = some o := fun e n => hidT_get e n
    have noA : ∀ {b : Addr} {o : Obj} {es : Array DictEntry} {ep : Nat}, s₁.heap.get? b = some o → o.data = .dict es ep → H b = none := fun {b o es ep} e d => by
      cases q : H b with
      | none => rfl
      | some u =>
        have e' : b = a := hA b (by rw [q]; simp)
        subst e'
        rw [ha] at e; cases e
        have d' : Data.seq vs.toArray _ = Data.dict es ep := d
        cases d'
    have nsK : ∀ {b : Addr} {m : Str → Option Value}, s₁.heap.Ns b m → (hidT s₁.heap H).Ns b m := fun {b m} ⟨o, es, ep, e, d, r⟩ => ⟨o, es, ep, base_of e (noA e d), d, r⟩
    have hKb : K.In (hidT s₁.heap H) := fun b o e => base_of (KX b o e) (by
      cases q : H b with
      | none => rfl
      | some u =>
        have e' : b = a := hA b (by rw [q]; simp)
        subst e'
        rw [hK (by rw [q]; simp)] at e; cases e)
    have hM : Mod K mg (hidT s₁.heap H) := ⟨hKb, nsK hns, ⟨mb, nsK hb, hbb⟩, let ⟨mc, h1, h2⟩ := hlim; ⟨mc, nsK h1, h2⟩⟩
    have e0 : Env0 P w K mg (hidT s₁.heap H) callerA [] s₁ H := ⟨rfl, hM, fun b o e => of_hidT e, Nat.le_of_eq (hidT_size _ _), trivial, fun b hb => absurd (show b ∈ ([] : List Addr) from hb) (by simp), hok, .of_eq hg⟩
    refine codeAny_mono ((F _ hKb (nsK hns)).run callerA [] s₁ H ⟨[.ref a], []⟩ [.ref a] [.ref a] _ _ hr e0 (hbind s₁ (.ref a)) (.cons rfl .nil) (hsp H hO hS)) fun r s' h => ?_
    cases r with
    | error e => exact (hCX H e s' h).elim
    | ok fl =>
      cases fl with
      | next => exact False.elim h
      | brk => exact False.elim h
      | cont => exact False.elim h
      | ret u =>
        obtain ⟨v, H', os, bare, un, hok', r', q⟩ := h
        have q' : v = .bl true := q
        subst q'
        obtain rfl : u = Value.bool true := r'
        refine ⟨rfl, OldK.of_keep fun b o e => ?_, os, bare⟩
        cases q : H b with
        | none => exact un.keep b o e q (by intro z; exact absurd (show b ∈ ([] : List Addr) from z) (by simp)) (by simp)
        | some u =>
          rcases hO b with z | ⟨ob, xs, z⟩
          · rw [q] at z; cases z
          · have z2 := un.frzs b ob _ z
            obtain ⟨e1, _⟩ := hok b _ z
            obtain ⟨e2, _⟩ := hok' b _ z2
            rw [e] at e1; cases e1
            exact e2
  cases hk : K.lookup a with
  | some o =>
    -- the script is one of the module's own objects
    have e := KX a o hk
    rw [ha] at e
    cases e
    refine core (fun _ => none) (fun _ => .inl rfl) (.inr ⟨_, vs.toArray, _, hk, rfl, rfl, rfl, by rw [List.size_toArray, lenV]; exact hl, by simpa using rv⟩) (fun b u z => by have z' : (none : Option HO) = some u := z; cases z') (fun b z => absurd rfl z) fun z => absurd rfl z
  | none =>
    refine core (fun b => if b = a then some (.frz { cls := .type "list", data := .seq vs.toArray } (.lst (ns.map V.int))) else none) (fun b => ?_) (.inl (.inr ⟨{ cls := .type "list", data := .seq vs.toArray }, if_pos rfl⟩)) (fun b u z => ?_) (fun b z => ?_) fun _ => hk
    · by_cases hb : b = a
      · exact .inr ⟨_, _, if_pos hb⟩
      · exact .inl (if_neg hb)
    · by_cases hb : b = a
      · have z' := (if_pos hb).symm.trans z
        cases z'
        subst hb
        exact ⟨ha, by rw [List.length_map]; exact hl, vs, _, rv, ha⟩
      · have z' := (if_neg hb).symm.trans z
        cases z'
    · by_cases hb : b = a
      · exact hb
      · exact absurd (if_neg hb) z
end L2

namespace L2
open PySem PySem.Spec PyProof.Rows

abbrev KOf {K : PySem.W.Frag} {h : Heap} (_ : K.In h) : PySem.W.Frag := K

/-- the goal that k_head leaves (case hc), from the law's promise. F gives the function object fd (K's own) once, then the promise over every base -/
theorem walk_of {l : PySem.W.OpenLaw} {n k : Nat} {q : Program} {loose : List Str} {XP : (Str → Option Value) → Heap → Prop} {YP : World → Heap → Prop} {d : DefRec} {K : Params → PySem.W.Frag} {CX : World → CXT} {sp : World → Sp} {x : Str}
    (hn : l.most = some n) (hn2 : n ≤ sizeLine) (hdf : d.params.defaults = []) (hr : Room k callerA)
    (hY : ∀ (w : World) (h : Heap), YP w h → (K w.params).In h)
    (F : ∀ (w : World) (mg : Str → Option Value) (fa : Addr) (h : Heap), (K w.params).In h → h.Ns mainGlobals mg → mg d.name = some (.ref fa) →
      ∃ fd : FuncData, (∀ (s : Shared) (u : Value), BindsTo s fd ⟨[u], []⟩ [(x, u)]) ∧
        ∀ base : Heap, (K w.params).In base → base.Ns mainGlobals mg → FnOk l.prog w (K w.params) mg base (CX w) k fa fd [x] (sp w))
    (hsp : ∀ (w : World) (H : Hp) (a : Addr) (ns : List Int), ns.length ≤ n → Only H → SqL (K w.params) H a (ns.map V.int) → sp w [.ref a] H (fun v _ => v = .bl true) fun _ _ _ => False)
    (hCX : ∀ (w : World) (H : Hp) (s : Shared) (e : Value) (s' : Shared), CX w [] H s (fun _ _ _ => False) e s' → False) :
    PySem.W.WalkO q loose XP YP l.row.toRowW d [] (fun f vs => PySem.call f vs) := by
  refine Att.attach_call hn hdf fun w s₀ s₁ mg mb fa o pm cd doc a vs ns G Y ho hd hcd hmg hobj hints hlen hg => ?_
  have KX := hY w _ Y
  obtain ⟨fd, hb, hF⟩ := F w mg fa _ KX G.T.g hmg
  exact law_call KX G.T.g G.T.b G.T.builtins G.T.nolimit hg hobj hints (Nat.le_trans hlen hn2) hr hF hb (fun H hO hS => hsp w H a ns hlen hO hS) fun H e s' => hCX w H s₁ e s'
end L2

/- THE LAST THEOREM (shape; LID, My.* are yours):
   My.Adr: a structure of the addresses that your layer names (classes, functions); My.Txt K t: a structure (Prop) of the equations over K;
   My.txt_mk : {K} {implicit addresses ..} (e1 : nsIn K mainGlobals "law" = some (some (.ref f))) (e2 : K.lookup f = some ⟨oc, od, .func (fnOf "law" "law" params body scope dV kV doc pm an cdv ct), sl⟩) (e3 : codeIn K cdv "law" = true) .. : ∃ t, My.Txt K t

set_option maxRecDepth 100000 in
set_option maxHeartbeats 0 in
theorem PySem.Challenge.cw_LID_holds : PySem.Challenge.rw_LID.Holds := by
  w_on; o_law; k_head; (case hw => w_witness2)
  k_fill
  refine L2.walk_of (l := PySem.Challenge.rw_LID) (n := 63) (k := 40) (x := "script") (CX := fun w => ..) (sp := fun _ => My.sp_law) rfl (by decide) rfl ⟨rfl, by decide, by decide⟩ (fun w h Y => PySem.W.kIn_of Y) ?F ?S ?C
  case F =>
    intro w mg fa h KX G hmg
    have T : ∃ t, My.Txt (L2.KOf KX) t := by
      dsimp only [L2.KOf]                          -- K must stand as «<heap const> w.params» for k_is
      refine' My.txt_mk ?e1 ?e2 ?e3 ..
      (case e1 => PySem.W.k_is)                    -- in the order: a name -> its address -> its object -> its parts
      (case e2 => PySem.W.k_is)
      ..
    obtain ⟨t, T⟩ := T
    have e0 := hmg.symm.trans (PySem.W.mg_of KX G T.law)
    cases e0                                       -- fa is the law's own address
    exact ⟨_, fun s u => .of_eq rfl, fun base kb nb => My.law_fn T kb nb⟩     -- if «.of_eq rfl» comes too early: refine' ⟨_, ?b, fun base kb nb => My.law_fn T kb nb⟩; exact fun s u => .of_eq rfl
  case S => exact fun w H a ns hl hO hS => ..
  case C => exact ..
(the tactic k_is has no namespace: write k_is) -/

/-! SHORT WORDS over the layer: a def of the text, its body, what a loop and a test want. -/
namespace L2
open PySem PySem.Spec PyProof.Rows

/-! ### the text by places -/
/-- the j-th statement of a class's body -/
def inClass (s : Stmt) (j : Nat) : Stmt := match s with
  | .ClassDef _ _ _ body _ _ _ _ _ _ _ => body.getD j (.Pass ⟨0, 0, 0, 0⟩)
  | _ => .Pass ⟨0, 0, 0, 0⟩
def defArgs (s : Stmt) : Arguments := match s with
  | .FunctionDef _ a _ _ _ _ _ _ _ _ => a
  | _ => { posonlyargs := [], args := [], vararg := none, kwonlyargs := [], kw_defaults := [], kwarg := none, defaults := [] }
def defBody (s : Stmt) : List Stmt := match s with
  | .FunctionDef _ _ b _ _ _ _ _ _ _ => b
  | _ => []
def defScope (s : Stmt) : Scope := match s with
  | .FunctionDef _ _ _ _ _ _ sc _ _ _ => sc
  | _ => { kind := .function, names := [], isGenerator := false, isCoroutine := false }

/-! ### no exception leaves a def -/
abbrev CX0 : CXT := fun _ _ _ _ _ _ => False
abbrev E0 : XK := fun _ _ _ => False
theorem pass0 {X : Cx} : Passes CX0 X E0 := fun _ _ _ _ _ _ _ h => h.elim

/-! ### a def (or method) of the text as it stands behind the top -/
structure Fun (K : PySem.W.Frag) (x qual : Str) (st : Stmt) (f : Addr) (fd : FuncData) : Prop where
  ex : ∃ (oc : Value) (od : Option Addr) (kV doc pm : Value) (an : Option Addr) (cdv ct : Value) (osl : Array (Option Value)),
    fd = PySem.W.fnOf x qual (defArgs st) (defBody st) (defScope st) .none kV doc pm an cdv ct ∧ K.lookup f = some ⟨oc, od, .func fd, osl⟩ ∧ PySem.W.codeIn K cdv qual = true
  kp : PySem.W.keepIn K (.ref f) = true
section
variable {P : Program} {w : World} {K : PySem.W.Frag} {mg : Str → Option Value} {base : Heap}
/-- THE RULE for a def: its body as a term of rules, and the reading of that term -/
theorem Fun.ok {x qual : Str} {st : Stmt} {f : Addr} {fd : FuncData} {N ps : List Str} {k : Nat} {sp : Sp} (F : Fun K x qual st f fd) (S : FnScope N ps (defScope st)) (len : ∀ vs H Q E, sp vs H Q E → vs.length = ps.length)
    (hbody : ∀ (cdv : Value) (A : Around) (outer : List Env) (s : Shared) (H : Hp) (vs : List V) (Q : VK) (E : XK), Room k (A.deeper (envOfC qual (defScope st) s.heap.objs.size f cdv)) → sp vs H Q E →
      ∃ t, PSs (cxOf CX0 P w K mg base N qual (defScope st) f cdv A outer s H E).nox (defBody st) t ∧ t { nx := fun _ H' => Q .non H', rt := Q } (start N vs) H) : FnOk P w K mg base CX0 (k + 1) f fd ps sp := by
  obtain ⟨oc, od, kV, doc, pm, an, cdv, ct, osl, rfl, lk, hcd⟩ := F.ex
  refine fn_of lk hcd S len fun A outer s H vs Q E hr hsp => ?_
  obtain ⟨t, h, q⟩ := hbody cdv A outer s H vs Q E hr hsp
  exact ⟨t, h.nox, q⟩
/-- how its arguments bind (no defaults): h is «fun _ _ _ _ _ _ us hl => match us, hl with | [_, _], _ => rfl», one _ a parameter -/
theorem Fun.binds {x qual : Str} {st : Stmt} {f : Addr} {fd : FuncData} {ps : List Str} (F : Fun K x qual st f fd)
    (h : ∀ (kV doc pm : Value) (an : Option Addr) (cdv ct : Value) (us : List Value), us.length = ps.length → bindArgs (PySem.W.fnOf x qual (defArgs st) (defBody st) (defScope st) .none kV doc pm an cdv ct) ⟨us, []⟩ = pure (ps.zip us)) : Binds K fd ps [] := by
  obtain ⟨oc, od, kV, doc, pm, an, cdv, ct, osl, rfl, lk, hcd⟩ := F.ex
  exact .all (h kV doc pm an cdv ct)
theorem fun_mk {x qual : Str} {st : Stmt} {f : Addr} {oc : Value} {od an : Option Addr} {osl : Array (Option Value)} {kV doc pm cdv ct : Value} (l : K.lookup f = some ⟨oc, od, .func (PySem.W.fnOf x qual (defArgs st) (defBody st) (defScope st) .none kV doc pm an cdv ct), osl⟩)
    (c : PySem.W.codeIn K cdv qual = true) (k : PySem.W.keepIn K (.ref f) = true) : Fun K x qual st f (PySem.W.fnOf x qual (defArgs st) (defBody st) (defScope st) .none kV doc pm an cdv ct) := ⟨⟨oc, od, kV, doc, pm, an, cdv, ct, osl, rfl, l, c⟩, k⟩
end
theorem hu_of {A : Around} {k : Nat} (hr : Room k A) : A.units + 1 < cLine := Nat.lt_of_le_of_lt (Nat.add_le_add_left (by decide : 1 ≤ 64) _) hr.units

/-! ### expressions in short: the name that stands in the i-th slot -/
section
variable {X : Cx}
theorem pv (i : Nat) {x : Str} {pos : Pos} (hN : X.N[i]? = some x := by rfl) (hv : Vis X.env.scope x := by first | exact Or.inl rfl | exact Or.inr (Or.inl rfl) | exact Or.inr (Or.inr rfl)) (hd : (x == ("__debug__" : Str)) = false := by decide)
    (hcd : (x == ("__classdict__" : Str)) = false := by decide) : PE X (.Name x pos) (tVar i) := pe_var hN hv hd hcd
end

/-! ### tests -/
theorem iteF {A B : Prop} (h : B) : if false = true then A else B := by
  rw [if_neg Bool.false_ne_true]
  exact h
theorem ite2 {c A B : Prop} [Decidable c] (h1 : c → A) (h2 : ¬ c → B) : if c then A else B := by
  by_cases h : c
  · rw [if_pos h]
    exact h1 h
  · rw [if_neg h]
    exact h2 h
theorem iteNS {c A B : Prop} [Decidable c] (hc : c) (h : B) : if (!decide c) = true then A else B := by
  rw [decide_eq_true hc]
  exact iteF h

/-! ### heaps -/
/-- all that was tracked is as it was -/
def Same (H H' : Hp) : Prop := ∀ b o, H b = some o → H' b = some o
theorem Same.refl (H : Hp) : Same H H := fun _ _ h => h
theorem Same.trans {H H1 H2 : Hp} (a : Same H H1) (b : Same H1 H2) : Same H H2 := fun c o h => b c o (a c o h)

/-! ### a dict's pairs: keys that differ -/
section
variable {κ : Type} [DecidableEq κ]
end
end L2
set_option Elab.async false
set_option linter.all false
set_option maxRecDepth 100000
/-! ### a list comprehension of one clause -/
namespace L2
open PySem PySem.Spec PyProof.Rows

/-- the cells that a block takes along -/
def clOf (cells : List (Str × Addr)) : List (Str × NameKind) → List (Str × Addr) → List (Str × Addr)
  | [], acc => acc
  | (x, k) :: r, acc => if k == NameKind.free then clOf cells r ((x, (cells.lookup x).getD 0) :: acc) else clOf cells r acc
theorem clOf_mem {cells : List (Str × Addr)} {p : Str × Addr} : ∀ {names : List (Str × NameKind)} {acc : List (Str × Addr)}, p ∈ clOf cells names acc → p ∈ acc ∨ ((p.1, NameKind.free) ∈ names ∧ p.2 = (cells.lookup p.1).getD 0)
  | [], _, h => .inl h
  | (x, k) :: r, acc, h => by
    unfold clOf at h
    by_cases hk : (k == NameKind.free) = true
    · rw [if_pos hk] at h
      have ek : k = NameKind.free := by simpa using hk
      subst ek
      rcases clOf_mem h with h | ⟨h, e⟩
      · rcases List.mem_cons.mp h with h | h
        · subst h
          exact .inr ⟨List.mem_cons_self, rfl⟩
        · exact .inl h
      · exact .inr ⟨List.mem_cons_of_mem _ h, e⟩
    · rw [if_neg hk] at h
      rcases clOf_mem h with h | ⟨h, e⟩
      · exact .inl h
      · exact .inr ⟨List.mem_cons_of_mem _ h, e⟩
theorem clOf_acc {cells : List (Str × Addr)} {p : Str × Addr} : ∀ {names : List (Str × NameKind)} {acc : List (Str × Addr)}, p ∈ acc → p ∈ clOf cells names acc
  | [], _, h => h
  | (x, k) :: r, acc, h => by
    unfold clOf
    split
    · exact clOf_acc (List.mem_cons_of_mem _ h)
    · exact clOf_acc h
theorem clOf_has {cells : List (Str × Addr)} {x : Str} : ∀ {names : List (Str × NameKind)} {acc : List (Str × Addr)}, (x, NameKind.free) ∈ names → (x, (cells.lookup x).getD 0) ∈ clOf cells names acc
  | [], _, h => by simp at h
  | (y, k) :: r, acc, h => by
    unfold clOf
    rcases List.mem_cons.mp h with h | h
    · have e1 : x = y := congrArg Prod.fst h
      have e2 : NameKind.free = k := congrArg Prod.snd h
      subst e1 e2
      rw [if_pos (by simp)]
      exact clOf_acc List.mem_cons_self
    · split
      · exact clOf_has h
      · exact clOf_has h
theorem lookup_of_mem {x : Str} {c : Addr} : ∀ {l : List (Str × Addr)}, (x, c) ∈ l → ∃ d, l.lookup x = some d
  | [], h => by simp at h
  | (y, d) :: r, h => by
    rw [List.lookup_cons]
    by_cases e : (x == y) = true
    · rw [e]; exact ⟨d, rfl⟩
    · have e' : (x == y) = false := by simpa using e
      rw [e']
      rcases List.mem_cons.mp h with h | h
      · have : x = y := congrArg Prod.fst h
        exact absurd (by simpa using this) e
      · exact lookup_of_mem h
theorem closureFor_is {env : Env} {scope : Scope} (h : ∀ y ∈ scope.names, y.2 = NameKind.free → ∃ c, env.cells.lookup y.1 = some c) : closureFor scope env = pure (clOf env.cells scope.names []) := by
  have all : ∀ (names : List (Str × NameKind)) (acc : List (Str × Addr)), (∀ y ∈ names, y.2 = NameKind.free → ∃ c, env.cells.lookup y.1 = some c) →
      (forIn names acc (fun (p : Str × NameKind) (r : List (Str × Addr)) => (if (p.2 == NameKind.free) = true then (do let a ← cellOf env p.1; pure (ForInStep.yield ((p.1, a) :: r))) else pure (ForInStep.yield r) : Sem (ForInStep (List (Str × Addr)))))) = (pure (clOf env.cells names acc) : Sem (List (Str × Addr))) := by
    intro names
    induction names with
    | nil => intro acc _; rfl
    | cons p r ih =>
      intro acc hh
      obtain ⟨x, k⟩ := p
      have hr : ∀ y ∈ r, y.2 = NameKind.free → ∃ c, env.cells.lookup y.1 = some c := fun y hy => hh y (List.mem_cons_of_mem _ hy)
      rw [List.forIn_cons]
      unfold clOf
      by_cases hk : (k == NameKind.free) = true
      · obtain ⟨c, hc⟩ := hh (x, k) List.mem_cons_self (by simpa using hk)
        have hc : env.cells.lookup x = some c := hc
        have ec : cellOf env x = pure c := by
          unfold cellOf
          rw [hc]
        simp only [hk, if_true, ec, pure_bind, hc, Option.getD_some]
        exact ih _ hr
      · simp only [hk, if_false, pure_bind]
        exact ih _ hr
  have e := all scope.names [] h
  unfold closureFor
  simp only [bind_pure]
  exact e

/-- the check of a block's scope against the scope around it -/
def blkOk (scope sc : Scope) (NB own : List Str) (cap : List Nat) (N : List Str) : Bool :=
  (scope.kind == .function) && (sc.kind == .function) &&
  (scope.names.all fun y => match y.2 with
    | .cell => false
    | .free => sc.names.lookup y.1 == some NameKind.cell
    | .local => scope.names.lookup y.1 == some NameKind.local
    | _ => true) &&
  (own.all fun x => scope.names.lookup x == some NameKind.local && scope.names.all fun y => !(y.1 == x) || y.2 == NameKind.local) &&
  (NB == own ++ cap.map fun i => N.getD i "") && (cap.all fun i => decide (i < N.length) && scope.names.lookup (N.getD i "") == some NameKind.free)

structure Blk (X : Cx) (scope : Scope) (NB own : List Str) (cap : List Nat) : Prop where
  kind : scope.kind = .function
  outk : X.env.scope.kind = .function
  nocell : ∀ y ∈ scope.names, y.2 ≠ .cell
  free : ∀ y ∈ scope.names, y.2 = .free → X.env.kindOf y.1 = some .cell
  names : ∀ y ∈ scope.names, y.2 = .local → scope.names.lookup y.1 = some .local
  owns : ∀ x ∈ own, ∀ y ∈ scope.names, y.1 = x → y.2 = .local
  nb : NB = own ++ cap.map fun i => X.N.getD i ""
  caps : ∀ i ∈ cap, i < X.N.length ∧ scope.names.lookup (X.N.getD i "") = some .free
theorem blk_of {X : Cx} {scope sc : Scope} {NB own : List Str} {cap : List Nat} (hs : X.env.scope = sc) (h : blkOk scope sc NB own cap X.N = true) : Blk X scope NB own cap := by
  unfold blkOk at h
  simp only [Bool.and_eq_true] at h
  obtain ⟨⟨⟨⟨⟨h1, h2⟩, h3⟩, h4⟩, h5⟩, h6⟩ := h
  rw [List.all_eq_true] at h3 h4 h6
  subst hs
  refine ⟨by simpa using h1, by simpa using h2, fun y hy e => ?_, fun y hy e => ?_, fun y hy e => ?_, fun x hx y hy e => ?_, by simpa using h5, fun i hi => ?_⟩
  · have := h3 y hy
    rw [e] at this
    exact absurd this (by simp)
  · have := h3 y hy
    rw [e] at this
    show X.env.scope.names.lookup y.1 = some .cell
    simpa using this
  · have := h3 y hy
    rw [e] at this
    simpa using this
  · have := h4 x hx
    simp only [Bool.and_eq_true, List.all_eq_true] at this
    have q := this.2 y hy
    subst e
    simpa using q
  · have := h6 i hi
    simp only [Bool.and_eq_true] at this
    exact ⟨of_decide_eq_true this.1, by simpa using this.2⟩

/-- the block's context -/
def cxB (X : Cx) (NB own : List Str) (scope : Scope) (C : Addr) (fp : List Addr) (s₀ : Shared) (H₀ : Hp) : Cx where
  prog := X.prog
  w := X.w
  K := X.K
  mg := X.mg
  base := X.base
  A := X.A
  N := NB
  s₀ := s₀
  H₀ := H₀
  env := compEnvC scope (clOf X.env.cells scope.names []) C X.env
  outer := X.stack
  stack := X.stack
  ex := fp
  fn := fun x => own.contains x
  calm := X.calm
  pn := []
  xe := fun _ _ => False

theorem relabel_free {env : Env} {x : Str} {k : NameKind} (hk : k = .cell ∨ k = .free) : ∀ {names : List (Str × NameKind)}, (∀ y ∈ names, y.2 ≠ .cell) →
    (names.map fun (n, k) => if (k == NameKind.free && env.scope.kind == .function && env.kindOf n == some .cell) then (n, NameKind.cell) else (n, k)).lookup x = some k → (x, NameKind.free) ∈ names
  | [], _, h => by simp at h
  | (n, q) :: r, hn, h => by
    have ih := @relabel_free env x k hk r fun y hy => hn y (List.mem_cons_of_mem _ hy)
    rw [List.map_cons, List.lookup_cons] at h
    have key : (if (q == NameKind.free && env.scope.kind == .function && env.kindOf n == some .cell) = true then (n, NameKind.cell) else (n, q)).1 = n := by split <;> rfl
    by_cases e : (x == n) = true
    · have en : x = n := by simpa using e
      subst en
      by_cases hq : q = .free
      · subst hq; exact List.mem_cons_self
      · have hqf : (q == NameKind.free) = false := by simpa using hq
        simp only [hqf, Bool.false_and, Bool.false_eq_true, if_false, beq_self_eq_true] at h
        have h' : q = k := Option.some.inj h
        rcases hk with z | z
        · exact absurd (h'.trans z) (hn (x, q) List.mem_cons_self)
        · exact absurd (h'.trans z) hq
    · have e' : (x == n) = false := by simpa using e
      refine List.mem_cons_of_mem _ (ih ?_)
      have e2 : (x == (if (q == NameKind.free && env.scope.kind == .function && env.kindOf n == some .cell) = true then (n, NameKind.cell) else (n, q)).1) = false := by rw [key]; exact e'
      rw [e2] at h
      exact h
theorem relabel_cap {env : Env} {x : Str} (hk : env.scope.kind = .function) (hc : env.kindOf x = some .cell) : ∀ {names : List (Str × NameKind)}, names.lookup x = some .free →
    (names.map fun (n, k) => if (k == NameKind.free && env.scope.kind == .function && env.kindOf n == some .cell) then (n, NameKind.cell) else (n, k)).lookup x = some .cell
  | [], h => by simp at h
  | (n, q) :: r, h => by
    have ih := @relabel_cap env x hk hc r
    rw [List.lookup_cons] at h
    rw [List.map_cons, List.lookup_cons]
    by_cases e : (x == n) = true
    · have en : x = n := by simpa using e
      subst en
      rw [e] at h
      have hq : q = .free := Option.some.inj h
      subst hq
      simp [hk, hc]
    · have e' : (x == n) = false := by simpa using e
      rw [e'] at h
      have key : (if (q == NameKind.free && env.scope.kind == .function && env.kindOf n == some .cell) = true then (n, NameKind.cell) else (n, q)).1 = n := by split <;> rfl
      have e2 : (x == (if (q == NameKind.free && env.scope.kind == .function && env.kindOf n == some .cell) = true then (n, NameKind.cell) else (n, q)).1) = false := by rw [key]; exact e'
      rw [e2]
      exact ih h

/-- the block's slots: its own names, then what it takes along -/
def stB (own : List Str) (cap : List Nat) (σ : St) : St := (own.map fun _ => none) ++ cap.map fun i => (σ[i]?).getD none

section
variable {X : Cx} {pins : List (Addr × Obj)} {σ : St} {H : Hp} {s : Shared} {scope : Scope} {NB own : List Str} {cap : List Nat} {fp : List Addr} {C : Addr}
theorem Blk.cells (B : Blk X scope NB own cap) (ok : X.Ok) {x : Str} {c : Addr} (h : (clOf X.env.cells scope.names []).lookup x = some c) : X.env.cells.lookup x = some c ∧ (x, NameKind.free) ∈ scope.names := by
  rcases clOf_mem (PySem.mem_of_lookup h) with q | ⟨q, e⟩
  · simp at q
  · obtain ⟨d, hd⟩ := ok.has x (.inl (B.free (x, .free) q rfl))
    have e : c = (X.env.cells.lookup x).getD 0 := e
    rw [hd] at e
    refine ⟨?_, q⟩
    rw [hd, e]; rfl
theorem Blk.cell (B : Blk X scope NB own cap) (ok : X.Ok) {x : Str} (h : (x, NameKind.free) ∈ scope.names) : ∃ c, (clOf X.env.cells scope.names []).lookup x = some c := lookup_of_mem (clOf_has h)
/-- the block begins -/
theorem Blk.start (B : Blk X scope NB own cap) (I : Inv X pins σ H s) (hf : ∀ b ∈ fp, FpOk X pins H b) (hfs : ∀ b ∈ fp, ∃ o, s.heap.get? b = some o) {h' : Heap} {tk : Nat} {m : Str → Option Value} (hC : s.heap.objs.size ≤ C)
    (k : ∀ b o, s.heap.get? b = some o → h'.get? b = some o) (hn : h'.Ns C m) :
    Inv (cxB X NB own scope C fp s H) [] (stB own cap σ) H { s with heap := h', toks := tk } := by
  have hlen : NB.length = own.length + cap.length := by rw [B.nb]; simp
  have okB : (cxB X NB own scope C fp s H).Ok := by
    refine ⟨I.ok.mod, B.kind, I.ok.glob, I.ok.blt, hC, fun x y c h1 h2 => I.ok.inj x y c (B.cells I.ok h1).1 (B.cells I.ok h2).1, fun x hx => ?_, fun x c h1 h2 => ?_, I.ok.hd, I.ok.frames, .inl rfl, fun b hb => ⟨?_, fun x c h => ?_⟩, I.bs, Nat.le_trans I.ok.bsz I.sz, fun b o e hb => ?_, fun b hb z => ?_, I.stack, I.stkFree⟩
    · have : (x, NameKind.free) ∈ scope.names := by
        rcases hx with z | z
        · exact relabel_free (.inl rfl) B.nocell z
        · exact relabel_free (.inr rfl) B.nocell z
      exact B.cell I.ok this
    · have hx : x ∈ own := by simpa [cxB] using h1
      have q := B.owns x hx _ (B.cells I.ok h2).2 rfl
      exact absurd q (by simp)
    · obtain ⟨o, e⟩ := hfs b hb
      exact Nat.ne_of_lt (Nat.lt_of_lt_of_le (Heap.lt_size e) hC)
    · exact (hf b hb).2.2.2.2.1 x c (B.cells I.ok h).1
    · have hb : b ∈ fp := hb
      rcases (hf b hb).2.2.2.1 with z | z
      · exact I.ok.noex b o e z
      · exact absurd (Nat.lt_of_lt_of_le (Heap.lt_size e) (Nat.le_trans I.ok.bsz z)) (Nat.lt_irrefl _)
    · rcases List.mem_cons.mp (I.stkSub b z) with z | z
      · exact (hf b hb).2.1 z
      · exact (hf b hb).2.2.1 z
  refine ⟨okB, rfl, I.bare, Un.kept k, ⟨m, hn, fun i x v e1 e2 e3 => ?_⟩, fun x c h => ?_, I.hok.fresh hC, fun x c h => I.freeC x c (B.cells I.ok h).1, fun p hp => absurd (show p ∈ ([] : List (Addr × Obj)) from hp) (by simp), I.hok.kept k, ?_⟩
  · have e1 : NB[i]? = some x := e1
    have hi : ¬ i < own.length := fun hi => by
      unfold stB at e2
      rw [List.getElem?_append_left (by simpa using hi), List.getElem?_map] at e2
      cases q : own[i]? <;> rw [q] at e2 <;> cases e2
    unfold stB at e2
    rw [List.getElem?_append_right (by simpa using hi), List.getElem?_map] at e2
    rw [B.nb, List.getElem?_append_right (by omega), List.getElem?_map] at e1
    simp only [List.length_map] at e2
    cases q : cap[i - own.length]? with
    | none => rw [q] at e1; cases e1
    | some j =>
      rw [q] at e1 e2
      have ex : X.N.getD j "" = x := Option.some.inj e1
      have ev : (σ[j]?).getD none = some v := Option.some.inj e2
      obtain ⟨hj, hjf⟩ := B.caps j (List.mem_of_getElem? q)
      rw [ex] at hjf
      have hN : X.N[j]? = some x := by rw [← ex, List.getD_eq_getElem?_getD, List.getElem?_eq_getElem hj]; rfl
      have hσ : σ[j]? = some (some v) := by
        cases z : σ[j]? with
        | none => rw [z] at ev; cases ev
        | some u => rw [z] at ev; exact congrArg some ev
      have hmem : (x, NameKind.free) ∈ scope.names := PySem.mem_of_lookup hjf
      have hkc := B.free _ hmem rfl
      obtain ⟨m0, hn0, hl⟩ := I.loc
      obtain ⟨u, r, l⟩ := hl j x v hN hσ (.inr (.inl hkc))
      refine ⟨u, r, .inr ⟨.inl (relabel_cap B.outk hkc hjf), ?_⟩⟩
      obtain ⟨c, hc⟩ := B.cell I.ok hmem
      refine ⟨c, hc, ?_⟩
      rcases l with ⟨z, _⟩ | ⟨_, c', hc', ⟨oc, hoc, hd⟩⟩
      · rw [show X.env.kindOf x = some .cell from hkc] at z; cases z
      · have := (B.cells I.ok hc).1
        rw [hc'] at this
        have : c' = c := Option.some.inj this
        subst this
        exact ⟨oc, k _ _ hoc, hd⟩
  · obtain ⟨v, oc, hoc, hd⟩ := I.cell x c (B.cells I.ok h).1
    exact ⟨v, oc, k _ _ hoc, hd⟩
  · show (stB own cap σ).length = NB.length
    unfold stB
    rw [hlen]; simp
/-- the block ends: its list at D -/
theorem Blk.done (B : Blk X scope NB own cap) (I : Inv X pins σ H s) (hf : ∀ b ∈ fp, FpOk X pins H b) {σB : St} {H' : Hp} {s' : Shared} {h'' : Heap} {D : Addr} {ys : List V} {its : List Value} {n : Nat} (hC : s.heap.objs.size ≤ C) (hD : s.heap.objs.size ≤ D) (hDC : D ≠ C)
    (J : Inv (cxB X NB own scope C fp s H) [] σB H' s') (hn : H' D = none) (e : s'.heap.get? D = some { cls := .type "list", data := .seq its.toArray n }) (hv : Vals ys its) (hz : ys.length ≤ sizeLine)
    (sb : Heap.SameBut C s'.heap h'') : Inv X pins σ (upd H' D (.lst ys)) { s' with heap := h'' } := by
  have un : Un (frs X.stack) fp H H' s.heap s'.heap := J.base
  have neC : ∀ {b o}, s.heap.get? b = some o → b ≠ C := fun q => Nat.ne_of_lt (Nat.lt_of_lt_of_le (Heap.lt_size q) hC)
  have neD : ∀ {b o}, s.heap.get? b = some o → b ≠ D := fun q => Nat.ne_of_lt (Nat.lt_of_lt_of_le (Heap.lt_size q) hD)
  have hCn : H' C = none := J.free
  refine I.call' (s' := { s' with heap := h'' }) (ch := fp) J.os ⟨fun b o q n hb hx => ?_, fun b o q n hb hx => ?_, fun b o q n hx => ?_, fun b o q hx => ?_, fun b xs q => ?_, fun b o u q => ?_, fun b ps q => ?_⟩ (fun b u q => ?_) J.bare fun b hb => ?_
  · exact (sb.2 b (neC q)).trans (un.keep b o q n hb hx)
  · obtain ⟨sl, r⟩ := un.slot b o q n hb hx
    exact ⟨sl, (sb.2 b (neC q)).trans r⟩
  · rw [upd_ne (neD q)]
    exact un.free b o q n hx
  · obtain ⟨o', r⟩ := un.there b o q hx
    exact ⟨o', (sb.2 b (neC q)).trans r⟩
  · have r := un.tups b xs q
    rw [upd_ne (ne_of_none r hn)]
    exact r
  · have r := un.frzs b o u q
    rw [upd_ne (ne_of_none r hn)]
    exact r
  · obtain ⟨more, r⟩ := un.tbls b ps q
    exact ⟨more, by rw [upd_ne (ne_of_none r hn)]; exact r⟩
  · by_cases hb : b = D
    · subst hb
      rw [upd_same] at q
      cases q
      exact ⟨hz, its, n, hv, (sb.2 b hDC).trans e⟩
    · rw [upd_ne hb] at q
      refine (J.hok b u q).stay (fun c v hc r => (sb.2 c ?_).trans r) (fun c r => ?_) fun c xs r => ?_
      · rcases hc with z | z
        · rw [z]; exact ne_of_none q hCn
        · exact ne_of_none z hCn
      · rw [upd_ne (ne_of_none r hn)]; exact r
      · rw [upd_ne (ne_of_none r hn)]; exact r
  · obtain ⟨_, f1, _, f3, f4, f5⟩ := hf b hb
    exact ⟨f3, f1, f4, f5⟩
end

/-- the tests of a clause, in a row -/
def PIf (X : Cx) (ifs : List Expr) (t : TT) : Prop :=
  ∀ (pins : List (Addr × Obj)) (s : Shared) (σ : St) (H : Hp) (Q : Bool → Hp → Prop), Inv X pins σ H s → t σ H Q →
    wpAny (model X.prog X.w) X.A (forIn ifs true fun c r => if r = true then do let ok ← isTrue c X.env (eval c X.env); pure (ForInStep.yield ok) else pure (ForInStep.yield r)) (TP X pins σ Q) X.xe s
def tYes : TT := fun _ H Q => Q true H
theorem pifs_nil {X : Cx} : PIf X [] tYes := fun _ _ _ H _ I h => wpAny_tests_nil ⟨H, I, h⟩
theorem pifs_one {X : Cx} {c : Expr} {t : TT} (h : PT X c t) : PIf X [c] t := fun pins s σ H Q I q => wpAny_tests_one (h pins s σ H Q I q)

section
variable {prog : Program} {w : World} {A : Around} {R : Result → Shared → Prop} {s : Shared}
abbrev noE : Value → Shared → Prop := fun _ _ => False
theorem comp_loop {elt tg iter : Expr} {ifs : List Expr} {scope : Scope} {pos : Pos} {it acc : Value} {env : Env} (I : Nat → Shared → Prop)
    (turn : ∀ n s, I n s → wpAny (model prog w) A (pyNext it) (fun r s₁ => match r with
      | none => R (.ok .next) s₁
      | some v => wpAny (model prog w) A (letOwnedTupleGo tg it v) (fun _ s₀ => wpAny (model prog w) A (assign tg env v) (fun _ s₂ =>
          wpAny (model prog w) A (forIn ifs true fun c r => if r = true then do let ok ← isTrue c env (eval c env); pure (ForInStep.yield ok) else pure (ForInStep.yield r)) (fun ok s₃ =>
            if ok = true then wpAny (model prog w) A (eval elt env) (fun x s₄ => wpAny (model prog w) A (call (.builtin "list.append") [acc, x]) (fun _ s₅ => ∃ m, m < n ∧ I m s₅) noE s₄) noE s₃
            else ∃ m, m < n ∧ I m s₃) noE s₂) noE s₀) noE s₁) noE s)
    (n : Nat) (h : I n s) : codeAny (model prog w) A (.compLoop (.ListComp elt [⟨tg, iter, ifs, 0⟩] scope pos) 0 it acc env) R s := by
  refine codeAny_loop rfl I (fun n s hI => ?_) n h
  show wpAny _ A ((compTurn (.ListComp elt [⟨tg, iter, ifs, 0⟩] scope pos) 0 it acc env).onRaise (fun x => do noteFrame x env; theTreesLotGoes x)) _ _ s
  refine wpAny_noted ?_
  rw [compTurn_list]
  refine wpAny_bind (wpAny_standAt (wpAny_bind (wpAny_mono (turn n s hI) (fun r s₁ h₁ => ?_) fun _ _ z => False.elim z)))
  cases r with
  | none => exact wpAny_pure h₁
  | some v =>
    refine wpAny_bind (wpAny_mono h₁ (fun _ s₀ h₀ => wpAny_bind (wpAny_mono h₀ (fun _ s₂ h₂ => wpAny_bind (wpAny_mono h₂ (fun ok s₃ h₃ => ?_) fun _ _ z => False.elim z)) fun _ _ z => False.elim z)) fun _ _ z => False.elim z)
    cases ok with
    | false => exact wpAny_pure ⟨rfl, h₃⟩
    | true => exact wpAny_bind (wpAny_bind (wpAny_mono h₃ (fun x s₄ h₄ => wpAny_bind (wpAny_mono h₄ (fun _ s₅ h₅ => wpAny_pure (wpAny_pure ⟨rfl, h₅⟩)) fun _ _ z => False.elim z)) fun _ _ z => False.elim z))
end

/-- [e for x in it if t]: W is the invariant by the turn, a measure, and what stands in the new list -/
def CompW (own : List Str) (cap : List Nat) (g : TG) (ti : TT) (te : TE) (Q : VK) (σ : St) (J : It) (H1 : Hp) : Prop := ∃ W : Nat → Nat → List V → St → Hp → Prop, (∃ m, W 0 m [] (stB own cap σ) H1) ∧ ∀ i m ys σ H, W i m ys σ H →
  (J.stop i H ∧ ys.length ≤ sizeLine ∧ ∀ D, H D = none → Q (.ref D) (upd H D (.lst ys))) ∨
  (J.go i H ∧ ys.length < sizeLine ∧ ∀ x H', J.yld i H x H' → g x σ H' fun σ2 H2 => ti σ2 H2 fun b H3 => if b = true then te σ2 H3 fun y H4 => ∃ m', m' < m ∧ W (i + 1) m' (ys ++ [y]) σ2 H4 else ∃ m', m' < m ∧ W (i + 1) m' ys σ2 H3)
def tComp (own : List Str) (cap : List Nat) (wi : TI) (g : TG) (ti : TT) (te : TE) : TE := fun σ H Q => wi σ H fun J H1 => CompW own cap g ti te Q σ J H1

theorem pe_comp {X : Cx} {elt iter tg : Expr} {ifs : List Expr} {scope : Scope} {pos : Pos} {NB own : List Str} {cap : List Nat} {wi : TI} {g : TG} {ti : TT} {te : TE} (B : Blk X scope NB own cap) (hc : X.calm = true) (hi : PI X tg iter wi)
    (hg : ∀ C fp s₀ H₀, PG (cxB X NB own scope C fp s₀ H₀) tg g) (ht : ∀ C fp s₀ H₀, PIf (cxB X NB own scope C fp s₀ H₀) ifs ti) (he : ∀ C fp s₀ H₀, PE (cxB X NB own scope C fp s₀ H₀) elt te)
    (hs : ∀ x, foldedSetIterable iter X.env x = pure x := by intro _; rfl) : PE X (.ListComp elt [⟨tg, iter, ifs, 0⟩] scope pos) (tComp own cap wi g ti te) := by
  intro pins s σ H Q I0 h
  rw [eval_ListComp]
  have hclos := closureFor_is (env := X.env) (scope := scope) fun y hy e => I0.ok.has y.1 (.inl (B.free y hy e))
  refine wpAny_comprehension_free (use := none) rfl hs hclos B.kind B.names (thn (hi pins s σ H _ I0 h) fun v s1 h1 => thn h1 fun itv s2 h2 => ?_)
  obtain ⟨it, fp, tn, J, H2, rfl, I, T, st2, f2, W, ⟨m0, w0⟩, turn⟩ := h2
  refine wpAny_newList ?_
  refine wpAny_newFunctionEnv B.nocell (by intro y hy; simp at hy) (fun h₁ hns₁ hsb₁ => ?_) B.kind
  dsimp only at hns₁ hsb₁ ⊢
  generalize hP : s2.heap.push { cls := .type "list", dict := none, data := .seq ([] : List Value).toArray } = P at hns₁ hsb₁ ⊢
  have hC : P.objs.size = s2.heap.objs.size + 1 := by rw [← hP, Heap.size_push]
  have hDC : s2.heap.objs.size ≠ P.objs.size := by rw [hC]; exact Nat.ne_of_lt (Nat.lt_succ_self _)
  have hCle : s2.heap.objs.size ≤ P.objs.size := by rw [hC]; exact Nat.le_succ _
  have old : ∀ b o, s2.heap.get? b = some o → h₁.get? b = some o := fun b o e => by
    refine (hsb₁.2 b ?_).trans (Heap.get?_push_of_some _ (hP ▸ Heap.get?_push_of_some _ e))
    exact Nat.ne_of_lt (Nat.lt_of_lt_of_le (Heap.lt_size e) hCle)
  have hD : h₁.get? s2.heap.objs.size = some { cls := .type "list", data := .seq ([] : List Value).toArray 0 } := by
    refine (hsb₁.2 _ hDC).trans (Heap.get?_push_of_some _ ?_)
    rw [← hP]
    exact Heap.get?_push_size _ rfl
  have hfs : ∀ b ∈ fp, ∃ o, s2.heap.get? b = some o := fun b hb => let ⟨o, e, _⟩ := T.obj _ _ st2 b hb; ⟨o, e⟩
  have st4 : tn 0 h₁ := T.keep _ _ _ st2 fun b _ o e => old b o e
  generalize htk : s2.toks + ([] : List (Str × Value)).length = tk4
  have I4 := B.start (C := P.objs.size) (tk := tk4) I f2 hfs hCle old hns₁
  have fOk : ∀ {H' : Hp} {b : Addr} {ob : Obj}, b ∈ fp → H' b = none → FpOk (cxB X NB own scope P.objs.size fp s2 H2) [(s2.heap.objs.size, ob)] H' b := fun {H' b ob} hb hn => by
    obtain ⟨o, e⟩ := hfs b hb
    refine ⟨hn, (I4.ok.exf b hb).1, I4.ok.exfs b hb, .inl hb, (I4.ok.exf b hb).2, fun p hp => ?_⟩
    have ep : p = (s2.heap.objs.size, ob) := List.mem_singleton.mp (show p ∈ [(s2.heap.objs.size, ob)] from hp)
    rw [ep]
    exact fun z => absurd (Heap.lt_size e) (by rw [← z]; exact Nat.lt_irrefl _)
  have dnf : s2.heap.objs.size ∉ frs X.stack := fun z => by
    rcases List.mem_cons.mp (I.stkSub _ z) with z | z
    · exact absurd I.lt (by rw [← z]; exact Nat.lt_irrefl _)
    · exact I.nofs (Nat.le_refl _) z
  have I3D : ∀ {σ3 : St} {H3 : Hp} {s3 : Shared} {its : List Value} {k : Nat}, Inv (cxB X NB own scope P.objs.size fp s2 H2) [] σ3 H3 s3 → s3.heap.get? s2.heap.objs.size = some { cls := .type "list", data := .seq its.toArray k } → H3 s2.heap.objs.size = none →
      Inv (cxB X NB own scope P.objs.size fp s2 H2) [(s2.heap.objs.size, { cls := .type "list", data := .seq its.toArray k })] σ3 H3 s3 := fun I3 e n => I3.pins_of fun p hp => by
    have ep := List.mem_singleton.mp hp
    subst ep
    exact ⟨e, n, hDC, dnf, fun v z => by cases z⟩
  have ndf : s2.heap.objs.size ∉ fp := fun z => by
    obtain ⟨o, e⟩ := hfs _ z
    exact absurd (Heap.lt_size e) (Nat.lt_irrefl _)
  have nCD : ∀ x c, (cxB X NB own scope P.objs.size fp s2 H2).env.cells.lookup x = some c → c ≠ s2.heap.objs.size := fun x c e z => by
    obtain ⟨v, o, ho, _⟩ := I.cell x c (B.cells I.ok e).1
    rw [z] at ho
    exact absurd (Heap.lt_size ho) (Nat.lt_irrefl _)
  have loop : ∀ s₃ : Shared, s₃ = { s2 with heap := h₁, toks := tk4 } → codeAny (model X.prog X.w) X.A (.compLoop (.ListComp elt [⟨tg, iter, ifs, 0⟩] scope pos) 0 (.ref it) (.ref s2.heap.objs.size) (cxB X NB own scope P.objs.size fp s2 H2).env)
      (compPost (model X.prog X.w) X.A X.xe none (EP X pins σ Q) (.ref s2.heap.objs.size) P.objs.size) s₃ := by
    rintro s₃ rfl
    refine comp_loop (fun n s' => ∃ i σB H' ys its k, Inv (cxB X NB own scope P.objs.size fp s2 H2) [] σB H' s' ∧ tn i s'.heap ∧ (∀ b ∈ fp, H' b = none) ∧ s'.heap.get? s2.heap.objs.size = some { cls := .type "list", data := .seq (its : List Value).toArray k } ∧ Vals ys its ∧ H' s2.heap.objs.size = none ∧ W i n ys σB H') ?_ m0
      ⟨0, stB own cap σ, H2, [], [], 0, I4, st4, fun b hb => (f2 b hb).1, hD, .nil, I.hok.fresh (Nat.le_refl _), w0⟩
    rintro n s3 ⟨i, σ3, H3, ys, its, k, I3, st3, fr3, hD3, rv, hn3, w3⟩
    rcases turn i n ys σ3 H3 w3 with ⟨stop, hz, q⟩ | ⟨go, hz, step⟩
    · refine thn (T.done (cxB X NB own scope P.objs.size fp s2 H2) rfl rfl rfl hc i _ s3 σ3 H3 noE (I3D I3 hD3 hn3) (fun b hb => fOk hb (fr3 b hb)) st3 stop) fun r s4 ⟨hr, I4'⟩ => ?_
      subst hr
      have hD4 : s4.heap.get? s2.heap.objs.size = some { cls := .type "list", data := .seq (its : List Value).toArray k } := (I4'.pin (s2.heap.objs.size, _) (List.mem_append_right _ (List.mem_singleton.mpr rfl))).1
      have I5 : Inv (cxB X NB own scope P.objs.size fp s2 H2) [] σ3 H3 s4 := I4'.pins_of fun p hp => absurd (show p ∈ ([] : List (Addr × Obj)) from hp) (by simp)
      obtain ⟨mC, hnC, _⟩ := I5.loc
      exact ⟨mC, hnC, fun h'' sb => ⟨.ref s2.heap.objs.size, _, B.done I f2 hCle (Nat.le_refl _) hDC I5 hn3 hD4 rv hz sb, rfl, q _ hn3⟩⟩
    · refine thn (T.item (cxB X NB own scope P.objs.size fp s2 H2) rfl rfl rfl hc i _ s3 σ3 H3 noE (I3D I3 hD3 hn3) (fun b hb => fOk hb (fr3 b hb)) st3 go) fun r s4 ⟨u, hr, h4⟩ => ?_
      subst hr
      refine thn h4 fun _ s5 ⟨x, H5, I5, r5, y5, st5, fr5⟩ => ?_
      have I5' := I5.pinned (fun b hb => fOk hb (fr5 b hb)) (T.obj _ _ st5)
      refine thn (hg _ fp s2 H2 _ s5 σ3 H5 x u _ I5' r5 (step x H5 y5)) fun _ s6 ⟨σ6, H6, I6, q6⟩ => ?_
      refine thn (ht _ fp s2 H2 _ s6 σ6 H6 _ I6 q6) fun b s7 ⟨H7, I7, q7⟩ => ?_
      have pinned : ∀ {σ8 : St} {H8 : Hp} {s8 : Shared}, Inv (cxB X NB own scope P.objs.size fp s2 H2) ([(s2.heap.objs.size, { cls := .type "list", data := .seq (its : List Value).toArray k })] ++ pinsAt fp s5.heap) σ8 H8 s8 →
          tn (i + 1) s8.heap ∧ (∀ b ∈ fp, H8 b = none) ∧ s8.heap.get? s2.heap.objs.size = some { cls := .type "list", data := .seq (its : List Value).toArray k } ∧ H8 s2.heap.objs.size = none := fun {σ8 H8 s8} I8 => by
        refine ⟨T.keep _ _ _ st5 fun b hb o e => (I8.pin (b, o) (List.mem_append_right _ (List.mem_append_right _ (mem_pinsAt hb e)))).1, fun b hb => ?_, ?_, ?_⟩
        · obtain ⟨o, e, d⟩ := T.obj _ _ st5 b hb
          exact (I8.pin (b, o) (List.mem_append_right _ (List.mem_append_right _ (mem_pinsAt hb e)))).2.1
        · exact (I8.pin (s2.heap.objs.size, _) (List.mem_append_right _ (List.mem_append_left _ (List.mem_singleton.mpr rfl)))).1
        · exact (I8.pin (s2.heap.objs.size, _) (List.mem_append_right _ (List.mem_append_left _ (List.mem_singleton.mpr rfl)))).2.1
      have nopin : ∀ {pp : List (Addr × Obj)} {σ8 : St} {H8 : Hp} {s8 : Shared}, Inv (cxB X NB own scope P.objs.size fp s2 H2) pp σ8 H8 s8 → Inv (cxB X NB own scope P.objs.size fp s2 H2) [] σ8 H8 s8 := fun I8 => I8.pins_of fun p hp => absurd (show p ∈ ([] : List (Addr × Obj)) from hp) (by simp)
      cases b with
      | false =>
        rw [if_neg Bool.false_ne_true] at q7 ⊢
        obtain ⟨m', hm, w7⟩ := q7
        obtain ⟨p1, p2, p3, p4⟩ := pinned I7
        exact ⟨m', hm, i + 1, σ6, H7, ys, its, k, nopin I7, p1, p2, p3, rv, p4, w7⟩
      | true =>
        rw [if_pos rfl] at q7 ⊢
        refine thn (he _ fp s2 H2 _ s7 σ6 H7 _ I7 q7) fun yv s8 ⟨y, H8, I8, r8, m', hm, w8⟩ => ?_
        obtain ⟨p1, p2, p3, p4⟩ := pinned I8
        refine call_meets F.slot_list_append ⟨_, p3, rfl⟩ F.entry_list_append (F.args_list_append_2 _ _) (PySem.list_append s2.heap.objs.size its.toArray k yv (by rw [List.size_toArray, ← rv.length]; omega)) ⟨p3, ?_⟩
        have q := PySem.IsL.update p3 fun a => a.push yv
        have ea : its.toArray.push yv = (its ++ [yv]).toArray := by simp
        rw [ea] at q
        have I9 : Inv (cxB X NB own scope P.objs.size fp s2 H2) [] σ6 H8 { s8 with heap := s8.heap.update s2.heap.objs.size (Obj.mapSeq fun a => a.push yv), toks := s8.toks } :=
          (nopin I8).turned (it := s2.heap.objs.size) (fun b o hb e => (Heap.get?_update_other s8.heap _ (Ne.symm hb)).trans e) p4 hDC (.inr (Nat.le_refl _)) (fun x c e => nCD x c e) fun p hp => absurd (show p ∈ ([] : List (Addr × Obj)) from hp) (by simp)
        refine ⟨m', hm, i + 1, σ6, H8, ys ++ [y], its ++ [yv], _, I9, ?_, p2, q, rv.append (.cons r8 .nil), p4, w8⟩
        refine T.keep _ _ _ p1 fun b hb o e => (Heap.get?_update_other s8.heap _ ?_).trans e
        intro z
        rw [z] at ndf
        exact ndf hb
  exact codeAny_compStart_list (loop _ rfl) (T.self X.A 0 _ _ _ st4 (loop _ rfl))

/-- .. over n items: Pv by the turn -/
theorem comp_by {own : List Str} {cap : List Nat} {J : It} {g : TG} {ti : TT} {te : TE} {σ : St} {H : Hp} {Q : VK} (n : Nat) (Pv : Nat → List V → St → Hp → Prop) (h0 : Pv 0 [] (stB own cap σ) H) (hz : ∀ i ys σ H, i ≤ n → Pv i ys σ H → ys.length ≤ i) (hn : n ≤ sizeLine)
    (hgo : ∀ i ys σ H, i < n → Pv i ys σ H → J.go i H) (hst : ∀ ys σ H, Pv n ys σ H → J.stop n H)
    (hs : ∀ i ys σ H x H' (N : List V → St → Hp → Prop), i < n → Pv i ys σ H → J.yld i H x H' → (∀ ys' σ' H'', Pv (i + 1) ys' σ' H'' → N ys' σ' H'') → g x σ H' fun σ2 H2 => ti σ2 H2 fun b H3 => if b = true then te σ2 H3 fun y H4 => N (ys ++ [y]) σ2 H4 else N ys σ2 H3)
    (hd : ∀ ys σ H D, Pv n ys σ H → H D = none → Q (.ref D) (upd H D (.lst ys))) :
    CompW own cap g ti te Q σ J H := by
  refine ⟨fun i m ys σ H => m = n - i ∧ i ≤ n ∧ Pv i ys σ H, ⟨n, by simp, Nat.zero_le _, h0⟩, ?_⟩
  rintro i m ys σ H ⟨rfl, hi, p⟩
  have hl := hz i ys σ H hi p
  by_cases hlt : i < n
  · refine .inr ⟨hgo i ys σ H hlt p, by omega, fun x H' y => ?_⟩
    exact hs i ys σ H x H' (fun ys' σ' H'' => ∃ m', m' < n - i ∧ m' = n - (i + 1) ∧ i + 1 ≤ n ∧ Pv (i + 1) ys' σ' H'') hlt p y fun ys' σ' H'' q => ⟨n - (i + 1), by omega, rfl, hlt, q⟩
  · have e : i = n := by omega
    subst e
    exact .inl ⟨hst ys σ H p, by omega, fun D hD => hd ys σ H D p hD⟩
end L2
set_option Elab.async false
set_option linter.all false
set_option maxRecDepth 100000
/-! ### texts: loops, slices, methods -/
namespace L2
open PySem PySem.Spec PyProof.Rows

/-- the signs of a text, one after another -/
def Its (z : Str) : It := ⟨fun i _ => i < z.cps.size, fun i H x H' => H' = H ∧ ∃ c, z.cps[i]? = some c ∧ x = .str ⟨#[c]⟩, fun i _ => i = z.cps.size⟩
/-- from a walk by the library's own rules, over one record -/
theorem turn_of_walks {P : Program} {w : World} {K : PySem.W.Frag} {tg : Expr} {it n : Nat} {Pv : Nat → Value → Prop} {st : Nat → Heap → Prop} {J : It} {T : String} {fl : Nat → Array Value}
    (W : ∀ A : Around, A.handled = none → Walks P w A it [it] [it] n Pv st) (hst : ∀ i h, st i h → ∃ o, h.get? it = some o ∧ o.cls = .type T ∧ o.data = .fields (fl i))
    (hT : ["enumerate", "zip", "dict_itemiterator", "dict_reverseitemiterator", "odict_iterator", "itertools.zip_longest", "itertools.pairwise"].contains T = false)
    (hgo : ∀ i H, J.go i H → i < n) (hstop : ∀ i H, J.stop i H → i = n) (hy : ∀ i H u, J.go i H → Pv i u → ∃ x, RelV x u ∧ J.yld i H x H)
    (hself : ∀ (A : Around) (i : Nat) (s : Shared) (Q : Value → Shared → Prop) (E : Value → Shared → Prop), st i s.heap → Q (.ref it) s → wpAny (model P w) A (pyIter (.ref it)) Q E s) : Turn P w K tg J [it] it st where
  mem := by simp
  obj := fun i h s b hb => by
    have e : b = it := by simpa using hb
    subst e
    obtain ⟨o, e, c, d⟩ := hst i h s
    exact ⟨o, e, fun v z => by rw [d] at z; cases z⟩
  keep := fun i h h' s k => (W {} rfl).frame i h h' s k
  item := by
    intro X hP hw hK hc i pins s σ H E I hf s0 hg
    subst hP hw hK
    obtain ⟨f0, f1, f2, f3, f4, f5⟩ := hf it (by simp)
    refine (W X.A (I.ok.hd hc)).item i s _ _ (hgo i H hg) s0 fun v h' tk hv st' kk => ?_
    have I1 : Inv X pins σ H { s with heap := h', toks := tk } := I.turned (fun b o hb e => kk b o (by simpa using hb) e) f0 f1 f3 f4 f5
    obtain ⟨o, e, c, d⟩ := hst _ _ st'
    obtain ⟨x, rx, yx⟩ := hy i H v hg hv
    exact ⟨v, rfl, go_of (s := { s with heap := h', toks := tk }) e c d hT ⟨x, H, I1, rx, yx, st', fun b hb => (hf b hb).1⟩⟩
  done := by
    intro X hP hw hK hc i pins s σ H E I hf s0 hg
    subst hP hw hK
    obtain ⟨f0, f1, f2, f3, f4, f5⟩ := hf it (by simp)
    have e := hstop i H hg
    subst e
    exact (W X.A (I.ok.hd hc)).done s _ _ s0 fun h' tk kk => ⟨rfl, I.turned (fun b o hb e => kk b o (by simpa using hb) e) f0 f1 f3 f4 f5⟩
  self := hself

section
variable {X : Cx} {tg : Expr}
def iStr (tl : TE) : TI := fun σ H R => tl σ H fun x H1 => ∃ z, x = .str z ∧ R (Its z) H1
theorem its_yld {z : Str} {i : Nat} {H : Hp} {u : Value} (h : SignAt z i u) : ∃ x, RelV x u ∧ (Its z).yld i H x H := by
  obtain ⟨c, t, e, rfl⟩ := h
  exact ⟨.str ⟨#[c]⟩, ⟨t, rfl⟩, rfl, c, e, rfl⟩
theorem pi_str {l : Expr} {tl : TE} (hl : PE X l tl) : PI X tg l (iStr tl) := by
  intro pins s σ H R I h
  refine thn (hl pins s σ H _ I h) fun v s1 ⟨x, H1, I1, r1, q1⟩ => ?_
  obtain ⟨z, rfl, q⟩ := q1
  obtain ⟨t, rfl⟩ := r1
  have fp : ∀ b ∈ [s1.heap.objs.size], FpOk X pins H1 b := fun b hb => by
    have e : b = s1.heap.objs.size := by simpa using hb
    subst e
    exact I1.fpOk (Nat.le_refl _) (I1.hok.fresh (Nat.le_refl _))
  cases ha : z.cps.all (· < 128)
  · refine wpAny_pyIter_wide ha ⟨s1.heap.objs.size, [s1.heap.objs.size], _, Its z, H1, rfl, I1.kept (t' := s1.toks) fun b o e => Heap.get?_push_of_some _ e,
      turn_of_walks (T := "str_iterator") (fl := fun i => #[.str z t, .int i 0]) (fun A hh => Walks.strWide hh _ z t) (fun i h st => st) (by decide) (fun i H g => g) (fun i H g => g) (fun i H u _ hu => its_yld hu) (fun A i s Q E st h => wpAny_pyIter_striter_wide st h), ⟨_, Heap.get?_push_size _ rfl, rfl, rfl⟩, fp, q⟩
  · refine wpAny_pyIter_ascii ha ⟨s1.heap.objs.size, [s1.heap.objs.size], _, Its z, H1, rfl, I1.kept (t' := s1.toks) fun b o e => Heap.get?_push_of_some _ e,
      turn_of_walks (T := "str_ascii_iterator") (fl := fun i => #[.str z t, .int i 0]) (fun A hh => Walks.strAscii hh _ z t) (fun i h st => st) (by decide) (fun i H g => g) (fun i H g => g) (fun i H u _ hu => its_yld hu) (fun A i s Q E st h => wpAny_pyIter_striter_ascii st h), ⟨_, Heap.get?_push_size _ rfl, rfl, rfl⟩, fp, q⟩

/-- a slice of a text -/
def rSlS : V → Option Int → Option Int → Hp → VK → Prop := fun x lo hi H Q => ∃ z, x = .str z ∧ z.length ≤ sizeLine ∧ Q (.str (Txt.slice z lo hi)) H
theorem sl_str : SlR X rSlS := by
  intro pins s σ H x v vl vu lo hi sl Q I rx hs pl pu h
  obtain ⟨z, rfl, hz, q⟩ := h
  obtain ⟨t, rfl⟩ := rx
  have fin : ∀ (lo hi : Option Int), Q (.str (Txt.slice z lo hi)) H → ∀ t' k, EP X pins σ Q (.str (Txt.slice z lo hi) t') { s with toks := k } := fun lo hi q t' k => ⟨.str _, H, I.tok _, ⟨_, rfl⟩, q⟩
  refine ⟨"str", _, F.slot_str_getitem.lookup, typeIs_str _ _ _, ?_⟩
  cases pl with
  | none =>
    cases pu with
    | none => exact wpAny_getItem_str_slice (l := none) (u := none) (st := none) hs rfl (post_val_or_str ⟨Nat.le_trans (Txt.slice_le z _ _) hz, fun t' k => fin _ _ q t' k⟩)
    | int j uj => exact wpAny_getItem_str_slice (l := none) (u := some (j, uj)) (st := none) hs rfl (post_val_or_str ⟨Nat.le_trans (Txt.slice_le z _ _) hz, fun t' k => fin _ _ q t' k⟩)
  | int i ui =>
    cases pu with
    | none => exact wpAny_getItem_str_slice (l := some (i, ui)) (u := none) (st := none) hs rfl (post_val_or_str ⟨Nat.le_trans (Txt.slice_le z _ _) hz, fun t' k => fin _ _ q t' k⟩)
    | int j uj => exact wpAny_getItem_str_slice (l := some (i, ui)) (u := some (j, uj)) (st := none) hs rfl (post_val_or_str ⟨Nat.le_trans (Txt.slice_le z _ _) hz, fun t' k => fin _ _ q t' k⟩)

/-- methods of a text -/
def rUpper : V → List V → Hp → VK → Prop := fun x vs H Q => ∃ z, x = .str z ∧ vs = [] ∧ z.length ≤ 5592405 ∧ Q (.str (Txt.upper z)) H
def rLower : V → List V → Hp → VK → Prop := fun x vs H Q => ∃ z, x = .str z ∧ vs = [] ∧ z.length ≤ 5592405 ∧ Q (.str (Txt.lower z)) H
theorem mt_upper : MtR X "str.upper" rUpper := by
  intro pins s σ H x vs v us Q I rx rv h
  obtain ⟨z, rfl, rfl, hz, q⟩ := h
  obtain ⟨t, rfl⟩ := rx
  cases rv
  exact SCL.upper hz fun _ => ⟨.str _, H, I.tok _, ⟨_, rfl⟩, q⟩
theorem mt_lower : MtR X "str.lower" rLower := by
  intro pins s σ H x vs v us Q I rx rv h
  obtain ⟨z, rfl, rfl, hz, q⟩ := h
  obtain ⟨t, rfl⟩ := rx
  cases rv
  exact SCL.lower hz fun _ => ⟨.str _, H, I.tok _, ⟨_, rfl⟩, q⟩
theorem strsAre_of : ∀ {ys : List Str} {us : List Value}, Vals (ys.map V.str) us → StrsAre us ys
  | [], _, r => by
    rw [List.map_nil] at r
    cases r
    exact .nil
  | y :: ys, us, r => by
    rw [List.map_cons] at r
    cases r with
    | cons r1 r2 =>
      obtain ⟨t, e⟩ := r1
      subst e
      exact .cons y t (strsAre_of r2)
/-- sep.join(a list of texts) -/
def rJoin (K : PySem.W.Frag) : V → List V → Hp → VK → Prop := fun x vs H Q => ∃ z p ys, x = .str z ∧ vs = [.ref p] ∧ SqL K H p (ys.map V.str) ∧ (ys.map (·.length)).sum + ys.length * z.length ≤ 16777216 ∧ Q (.str (Txt.join z ys)) H
theorem mt_join : MtR X "str.join" (rJoin X.K) := by
  intro pins s σ H x vs v us Q I rx rv h
  obtain ⟨z, p, ys, rfl, rfl, hq, hz, q⟩ := h
  obtain ⟨t, rfl⟩ := rx
  obtain ⟨u, rfl, ru⟩ := vals1 rv
  cases ru
  obtain ⟨its, r, pl, _⟩ := I.list hq
  exact join_list pl.isList (by simpa using strsAre_of r) hz fun t' k => ⟨.str _, H, I.tok _, ⟨_, rfl⟩, q⟩


end

/-- over a text's signs -/
theorem for_str {z : Str} {g : TG} {tb : TS} {D : Ends} {σ : St} {H : Hp} (Pv : Nat → St → Hp → Prop) (h0 : Pv 0 σ H)
    (hs : ∀ i c σ H, z.cps[i]? = some c → Pv i σ H → g (.str ⟨#[c]⟩) σ H fun σ2 H2 => tb { D with nx := Pv (i + 1), ct := Pv (i + 1), bk := D.nx } σ2 H2) (hd : ∀ σ H, Pv z.cps.size σ H → D.nx σ H) :
    ∃ W : Nat → Nat → St → Hp → Prop, (∃ m, W 0 m σ H) ∧ ∀ i m σ H, W i m σ H →
      ((Its z).stop i H ∧ D.nx σ H) ∨ ((Its z).go i H ∧ ∃ N : St → Hp → Prop, (∀ σ' H', N σ' H' → ∃ m', m' < m ∧ W (i + 1) m' σ' H') ∧ ∀ x H', (Its z).yld i H x H' → g x σ H' fun σ2 H2 => tb { D with nx := N, ct := N, bk := D.nx } σ2 H2) := by
  refine ⟨fun i m σ H => m = z.cps.size - i ∧ i ≤ z.cps.size ∧ Pv i σ H, ⟨z.cps.size, by simp, Nat.zero_le _, h0⟩, ?_⟩
  rintro i m σ H ⟨rfl, hi, p⟩
  by_cases hlt : i < z.cps.size
  · refine .inr ⟨hlt, Pv (i + 1), fun σ' H' p' => ⟨z.cps.size - (i + 1), by omega, rfl, hlt, p'⟩, fun x H' y => ?_⟩
    obtain ⟨e, c, hc, ex⟩ := y
    subst e ex
    exact hs i c σ _ hc p
  · have e : i = z.cps.size := by omega
    subst e
    exact .inl ⟨rfl, hd σ H p⟩
end L2
set_option Elab.async false
set_option linter.all false
set_option maxRecDepth 100000
namespace PySem
open Sem (wp)
open Builtin Builtin.SmallTypes
namespace F
theorem lookup_str_reversed : typeLookup (.type "str") "__reversed__" = pure none := by rw [typeLookup_type, builtinLookup_eq_fast]; kernel_rfl
theorem slot_rvs_init : Slot "reversed" "__init__" "object.__init__" :=
  .of (owner := "object") (n := "__init__") (by rw [typeLookup_type, builtinLookup_eq_fast]; kernel_rfl) (by decide +kernel) (by decide +kernel) (by decide +kernel)
    (by first | exact .inl (by decide +kernel) | exact .inr (by decide +kernel)) (by rw [isSubtype_type]; kernel_rfl)
theorem called_rvs : TypeCalled "reversed" "reversed.__new__" "object.__init__" :=
  ⟨by decide +kernel, create_reversed, ⟨_, _, mro_reversed⟩, made_reversed, plain_reversed_new, sub_reversed_self, slot_rvs_init⟩
end F
set_option maxHeartbeats 1000000 in
theorem meets_rvs (x : Str) (t : Tok) : Meets (Builtin.«reversed.__new__» ⟨[.type "reversed", .str x t], []⟩) (fun _ R s => ¬ (x.length : Int) ≥ 2 ^ 63 ∧
      ∀ tk, R (.ok (.ret (.ref s.heap.objs.size))) { s with heap := s.heap.push { cls := .type "reversed", data := .fields #[.str x t, rawInt ((x.length : Int) - 1)] }, toks := tk }) :=
  .of_wp fun prog w A R s h => by
    obtain ⟨hx, h⟩ := h
    unfold Builtin.«reversed.__new__»
    refine wpAny_bind (wpAny_of_eq (newClass_reversed _) ?_)
    try dsimp only
    refine wpAny_bind (wpAny_of_eq (a := ()) (by first | rfl | kernel_rfl) ?_)
    refine wpAny_bind (wpAny_of_eq (a := ()) (by first | rfl | kernel_rfl) ?_)
    try dsimp only
    refine wpAny_bind (wpAny_specialOf (typeIs_str s x t) F.lookup_str_reversed ?_)
    try dsimp only
    refine wpAny_bind ?_
    have hl := F.slot_str_getitem.lookup
    have hT := typeIs_str s x t
    have hD : isSubtype (.type "str") (.type "dict") = pure false := by rw [isSubtype_type]; kernel_rfl
    repeat (any_goals (first | assumption | refine PySem.P.len_str hx ?_ | wp_step))
    exact ⟨_, rfl, h _⟩

def Heap.IsRvs (h : Heap) (a : Addr) (x : Str) (t : Tok) (i : Int) : Prop := ∃ o, h.get? a = some o ∧ o.cls = .type "reversed" ∧ o.data = .fields #[.str x t, rawInt i]
theorem Heap.IsRvs.typeIs {s : Shared} {a : Addr} {x : Str} {t : Tok} {i : Int} (y : s.heap.IsRvs a x t i) : s.TypeIs (.ref a) "reversed" := let ⟨o, ho, hc, _⟩ := y; ⟨o, ho, hc⟩
namespace F
theorem slot_rvs_next : Slot "reversed" "__next__" "reversed.__next__" :=
  .of (owner := "reversed") (n := "__next__") (by rw [typeLookup_type, builtinLookup_eq_fast]; kernel_rfl) (by decide +kernel) (by decide +kernel) (by decide +kernel)
    (by first | exact .inl (by decide +kernel) | exact .inr (by decide +kernel)) (by rw [isSubtype_type]; kernel_rfl)
theorem entry_rvs_next : entryFor table "reversed.__next__" = some Builtin.«reversed.__next__» := entryFor_of_tree (by kernel_rfl)
theorem args_rvs_next (a : Value) : argsOk "reversed.__next__" ⟨[a], []⟩ := by unfold argsOk; kernel_rfl
theorem slot_rvs_iter : Slot "reversed" "__iter__" "reversed.__iter__" :=
  .of (owner := "reversed") (n := "__iter__") (by rw [typeLookup_type, builtinLookup_eq_fast]; kernel_rfl) (by decide +kernel) (by decide +kernel) (by decide +kernel)
    (by first | exact .inl (by decide +kernel) | exact .inr (by decide +kernel)) (by rw [isSubtype_type]; kernel_rfl)
theorem args_rvs_iter (a : Value) : argsOk "reversed.__iter__" ⟨[a], []⟩ := by unfold argsOk; kernel_rfl
theorem entry_rvs_iter : entryFor table "reversed.__iter__" = some Builtin.«dict_keyiterator.__iter__» :=
  entryFor_alias (id' := "dict_keyiterator.__iter__") (by kernel_rfl) rfl (by decide +kernel) (by kernel_rfl)
end F
section
variable {prog : Program} {w : World} {A : Around} {E : Value → Shared → Prop} {s : Shared} {x : Str} {t : Tok}
theorem call_rvs_str {Q : Value → Shared → Prop} (hx : ¬ (x.length : Int) ≥ 2 ^ 63)
    (h : ∀ tk, Q (.ref s.heap.objs.size) { s with heap := s.heap.push { cls := .type "reversed", data := .fields #[.str x t, rawInt ((x.length : Int) - 1)] }, toks := tk }) : wpAny (model prog w) A (call (.type "reversed") [.str x t]) Q E s :=
  callType_new F.called_rvs (by decide) (F.typeCall_reversed_1 _) (F.newCall_reversed_1 _) (fun obj => F.args_object_init_2 obj _) F.entry_reversed_new (meets_rvs x t) ⟨hx, fun tk => ⟨⟨_, Heap.get?_push_size _ rfl, rfl⟩, h tk⟩⟩
theorem iter_rvs {it : Addr} {i : Int} {Q : Value → Shared → Prop} (hit : s.heap.IsRvs it x t i) (h : Q (.ref it) s) : wpAny (model prog w) A (pyIter (.ref it)) Q E s := by
  refine wpAny_pyIter_slot hit.typeIs F.slot_rvs_iter (wpAny_call_entry F.slot_rvs_iter hit.typeIs F.entry_rvs_iter ?_ (F.args_rvs_iter _))
  show wpAny _ _ (ret (.ref it)) _ _ s
  exact wpAny_pure ⟨_, rfl, "reversed", _, hit.typeIs, F.slot_rvs_next.lookup, h⟩
theorem next_rvs_item {it : Addr} {i : Nat} {c : Nat} {Q : Option Value → Shared → Prop} (hit : s.heap.IsRvs it x t (i : Int)) (hx : x.cps[i]? = some c) (h63 : (i : Int) < 2 ^ 63)
    (hQ : ∀ h' tk u, h'.IsRvs it x t ((i : Int) - 1) → Heap.SameBut it s.heap h' → Q (some (.str ⟨#[c]⟩ u)) { s with heap := h', toks := tk }) : wpAny (model prog w) A (pyNext (.ref it)) Q E s := by
  obtain ⟨o, ho, hc, hd⟩ := id hit
  unfold pyNext
  refine wpAny_bind (wpAny_attempt (wpAny_callSpecial?_slot (name := Str.ofString "__next__") hit.typeIs F.slot_rvs_next
    (wpAny_call_entry F.slot_rvs_next hit.typeIs F.entry_rvs_next ?_ (F.args_rvs_next _))))
  unfold Builtin.«reversed.__next__»
  refine wpAny_bind (wpAny_of_eq (a := (Value.ref it, [])) rfl ?_)
  try dsimp only
  refine wpAny_bind (wpAny_field ho hd (x := .str x t) rfl ?_)
  refine wpAny_bind (wpAny_field ho hd (x := rawInt (i : Int)) rfl ?_)
  show wpAny _ _ (if (i : Int) < 0 then _ else _) _ _ s
  rw [if_neg (by omega)]
  refine wpAny_bind (wpAny_specialOf (typeIs_str s x t) F.slot_str_getitem.lookup ?_)
  show wpAny _ _ (if (some (Value.builtin "str.__getitem__")).isNone = true then _ else _) _ _ s
  rw [if_neg (by decide)]
  refine wpAny_bind (wpAny_mkInt ?_)
  have hlt : i < x.length := by
    have := Array.getElem?_eq_some_iff.mp hx
    exact this.1
  refine wpAny_bind (wpAny_attempt (PySem.P.getItem_str (c := c) ?_ ?_ ?_))
  · have e1 : decide ((i : Int) < -(2 ^ 63 : Int)) = false := decide_eq_false (by omega)
    have e2 : decide ((i : Int) ≥ 2 ^ 63) = false := decide_eq_false (by omega)
    rw [e1, e2, Bool.or_false]
  · rw [PySem.StrLaws.seqIndex_nonneg (by omega) (by omega)]
    simpa using hx
  try dsimp only
  refine wpAny_bind (wpAny_field ho hd (x := rawInt (i : Int)) rfl ?_)
  show wpAny _ _ (setField (.ref it) 1 (rawInt ((i : Int) - 1)) >>= _) _ _ _
  refine wpAny_bind (wpAny_setField ho hd (by simp) ?_)
  refine wpAny_pure ⟨_, rfl, wpAny_pure (hQ _ _ _ ?_ (Heap.SameBut.update ..))⟩
  exact ⟨_, Heap.get?_update_self _ ho (Obj.isFreed_of_fields (Obj.data_mapFields hd _)), (Obj.cls_mapFields ..).trans hc, by
    rw [Obj.data_mapFields hd]; simp⟩
theorem next_rvs_end {it : Addr} {Q : Option Value → Shared → Prop} (hh : A.handled = none) (hit : s.heap.IsRvs it x t (-1))
    (hQ : ∀ h', (∀ b o, b ≠ it → s.heap.get? b = some o → h'.get? b = some o) → Q none { s with heap := h' }) : wpAny (model prog w) A (pyNext (.ref it)) Q E s := by
  obtain ⟨o, ho, hc, hd⟩ := id hit
  unfold pyNext
  refine wpAny_bind (wpAny_attempt (wpAny_callSpecial?_slot (name := Str.ofString "__next__") hit.typeIs F.slot_rvs_next
    (wpAny_call_entry F.slot_rvs_next hit.typeIs F.entry_rvs_next ?_ (F.args_rvs_next _))))
  unfold Builtin.«reversed.__next__»
  refine wpAny_bind (wpAny_of_eq (a := (Value.ref it, [])) rfl ?_)
  try dsimp only
  refine wpAny_bind (wpAny_field ho hd (x := .str x t) rfl ?_)
  refine wpAny_bind (wpAny_field ho hd (x := rawInt (-1)) rfl ?_)
  show wpAny _ _ (if (-1 : Int) < 0 then _ else _) _ _ s
  rw [if_pos (by decide)]
  refine wpAny_bind (wpAny_rule ?_)
  refine wpAny_bind ?_
  show wpAny _ _ (setField (.ref it) 1 (rawInt (-1)) >>= fun _ => setField (.ref it) 0 .none) _ _ s
  refine wpAny_bind (wpAny_setField ho hd (by simp) ?_)
  have ho2 := Heap.get?_update_self (Obj.mapFields fun a => a.setIfInBounds 1 (rawInt (-1))) ho (Obj.isFreed_of_fields (Obj.data_mapFields hd _))
  have hd2 := Obj.data_mapFields hd fun a => a.setIfInBounds 1 (rawInt (-1))
  refine wpAny_setField ho2 hd2 (by simp) ?_
  generalize hh2 : (s.heap.update it _).update it _ = h2
  have kk : ∀ b o, b ≠ it → s.heap.get? b = some o → h2.get? b = some o := fun b o hb e => by
    rw [← hh2]
    exact (Heap.get?_update_other _ _ (Ne.symm hb)).trans ((Heap.get?_update_other _ _ (Ne.symm hb)).trans e)
  have hz : A.in1.handled = none := hh
  have sub := isSubtype_stop
  repeat (any_goals (first | assumption | wp_step))
  unfold raiseNew
  refine wpAny_bind (wpAny_handled ?_)
  rw [hz]
  refine wpAny_bind (wpAny_pure (wpAny_throw ?_))
  refine wpAny_bind (wpAny_isInstance (T := "StopIteration") (b := true) ?_ sub (wpAny_pure (hQ _ fun b o hb e => ?_)))
  · exact ⟨_, Heap.get?_push_size _ rfl, rfl⟩
  exact Heap.get?_push_of_some _ (Heap.get?_push_of_some _ (kk b o hb e))
theorem walks_rvs (hh : A.handled = none) (it : Addr) (x : Str) (t : Tok) (h63 : (x.cps.size : Int) < 2 ^ 63) :
    Walks prog w A it [it] [it] x.cps.size (fun i v => ∃ c u, x.cps[x.cps.size - 1 - i]? = some c ∧ v = .str ⟨#[c]⟩ u) (fun i h => i ≤ x.cps.size ∧ h.IsRvs it x t ((x.cps.size : Int) - 1 - (i : Int))) where
  sub := fun _ hb => hb
  frame := fun _ _ _ st hk => let ⟨l, o, ho, r⟩ := st; ⟨l, o, hk it (by simp) o ho, r⟩
  item := fun i s Q E hi y hQ => by
    have e : (x.cps.size : Int) - 1 - (i : Int) = ((x.cps.size - 1 - i : Nat) : Int) := by omega
    have hit := y.2
    rw [e] at hit
    have hx : x.cps[x.cps.size - 1 - i]? = some (x.cps[x.cps.size - 1 - i]'(by omega)) := Array.getElem?_eq_getElem (by omega)
    refine next_rvs_item hit hx (by omega) fun h' tk u hit' hs' => ?_
    have e2 : ((x.cps.size - 1 - i : Nat) : Int) - 1 = (x.cps.size : Int) - 1 - ((i + 1 : Nat) : Int) := by omega
    rw [e2] at hit'
    exact hQ _ h' tk ⟨_, u, hx, rfl⟩ ⟨hi, hit'⟩ fun b o hb eo => hs'.extBut b o (fun h => hb (by simp [h])) eo
  done := fun s Q E y hQ => by
    have e : (x.cps.size : Int) - 1 - (x.cps.size : Int) = -1 := by omega
    have hit := y.2
    rw [e] at hit
    exact next_rvs_end hh hit fun h' he' => hQ h' s.toks fun b o hb eo => he' b o (fun h => hb (by simp [h])) eo
  self := fun _ _ _ _ y hQ => iter_rvs y.2 hQ
end
end PySem

namespace L2
open PySem PySem.Spec PyProof.Rows
/-- the signs of a text, from the last on -/
def Itsr (z : Str) : It := ⟨fun i _ => i < z.cps.size, fun i H x H' => H' = H ∧ ∃ c, z.cps[z.cps.size - 1 - i]? = some c ∧ x = .str ⟨#[c]⟩, fun i _ => i = z.cps.size⟩
section
variable {X : Cx} {tg : Expr}
def iStrR (ta : TA) : TI := fun σ H R => ta σ H fun vs H1 => ∃ z, vs = [.str z] ∧ z.length ≤ sizeLine ∧ R (Itsr z) H1
theorem pi_strR {a : Expr} {ta : TA} {p pos : Pos} (hg : Gl X "reversed") (hm : X.mg "reversed" = none) (hb : bootBuiltins "reversed" = some (.type "reversed")) (ha : PA X [a] ta) (hs : starEach [a] X.env = [(false, eval a X.env)] := by rfl) :
    PI X tg (.Call (.Name "reversed" p) [a] [] pos) (iStrR ta) := by
  intro pins s σ H R I h
  refine Call_ (ld_blt I hg hm hb (PyProof.Rows.callWith_type1 (thn (ha pos pins s σ H _ I h) fun us s1 ⟨vs, H1, I1, r1, q1⟩ => ?_) hs rfl))
  obtain ⟨z, rfl, hz, q⟩ := q1
  obtain ⟨u, rfl, t, rfl⟩ := vals1 r1
  have hn := line63
  have hsz : z.cps.size = z.length := rfl
  refine call_rvs_str (by omega) fun tk => ?_
  have hit : Heap.IsRvs (s1.heap.push { cls := .type "reversed", data := .fields #[.str z t, rawInt ((z.length : Int) - 1)] }) s1.heap.objs.size z t ((z.length : Int) - 1) := ⟨_, Heap.get?_push_size _ rfl, rfl, rfl⟩
  refine iter_rvs (s := { s1 with heap := s1.heap.push { cls := .type "reversed", data := .fields #[.str z t, rawInt ((z.length : Int) - 1)] }, toks := tk }) hit ?_
  refine ⟨s1.heap.objs.size, [s1.heap.objs.size], _, Itsr z, H1, rfl, I1.kept (t' := tk) fun b o e => Heap.get?_push_of_some _ e,
    turn_of_walks (T := "reversed") (fl := fun i => #[.str z t, rawInt ((z.cps.size : Int) - 1 - (i : Int))]) (fun A hh => walks_rvs hh _ z t (by omega)) (fun i h st => st.2) (by decide) (fun i H g => g) (fun i H g => g)
      (fun i H u _ ⟨c, t', e, eu⟩ => ⟨.str ⟨#[c]⟩, ⟨t', eu⟩, rfl, c, e, rfl⟩) (fun A i s Q E st h => iter_rvs st.2 h), ⟨Nat.zero_le _, by simpa [hsz] using hit⟩, fun b hb => ?_, q⟩
  have e : b = s1.heap.objs.size := by simpa using hb
  subst e
  exact I1.fpOk (Nat.le_refl _) (I1.hok.fresh (Nat.le_refl _))

/-- a dict of texts that the top has written, read by a text -/
structure DTx (K : PySem.W.Frag) (w : World) (a : Addr) : Prop where
  ob : ∃ (es : Array DictEntry) (n : Nat), K.lookup a = some ⟨.type "dict", none, .dict es n, #[]⟩ ∧ PySem.W.KeysLit w.params es.toList
theorem ix_kdict {a : Addr} (D : DTx X.K X.w a) : IxR X (fun x y H Q => ∃ z z' t, x = .ref a ∧ y = .str z ∧ PySem.W.nsIn X.K a z = some (some (.str z' t)) ∧ Q (.str z') H) := by
  intro value slice pins s σ H x y v u Q I rx ry h hs
  obtain ⟨z, z', t', rfl, rfl, e, q⟩ := h
  cases rx
  obtain ⟨t, rfl⟩ := ry
  obtain ⟨es, n, hl, hk⟩ := D.ob
  obtain ⟨m, F⟩ := I.fr
  exact PySem.W.topItem_K F I.ok.mod.kin hl hk e ⟨.str z', H, I.tok _, ⟨_, rfl⟩, q⟩ hs
def tKGet (K : PySem.W.Frag) (a : Addr) (ti : TE) : TE := fun σ H Q => ti σ H fun y H1 => ∃ z z' t, y = .str z ∧ PySem.W.nsIn K a z = some (some (.str z' t)) ∧ Q (.str z') H1
theorem pe_kget {K : PySem.W.Frag} {w : World} {a : Addr} {x : Str} {i : Expr} {ti : TE} {p pos : Pos} (D : DTx K w a) (hK : X.K = K) (hw : X.w = w) (hg : Gl X x) (hm : X.mg x = some (.ref a)) (hi : PE X i ti) (hs : PlainIx i)
    (hd : (x == ("__debug__" : Str)) = false := by decide) : PE X (.Subscript (.Name x p) i pos) (tKGet K a ti) := by
  subst hK hw
  intro pins s σ H Q I h
  refine Subscript_ (ld_glob I hg hm (thn (hi pins s σ H _ I h) fun u s2 ⟨y, H2, I2, ry, z, z', t', e1, e2, q⟩ => ?_) hd)
  exact ix_kdict D _ _ pins s2 σ H2 (.ref a) y (.ref a) u Q I2 rfl ry ⟨z, z', t', rfl, e1, e2, q⟩ (hs _ _)
end
end L2
set_option linter.all false
/-! words of a free group on six letters, plainly -/
namespace Wd
abbrev L := Fin 12
def inv (x : L) : L := if h : x.val < 6 then ⟨x.val + 6, by omega⟩ else ⟨x.val - 6, by omega⟩
theorem inv_inv : ∀ x : L, inv (inv x) = x := by decide
theorem inv_ne : ∀ x : L, inv x ≠ x := by decide
def bk (w : List L) : List L := (w.map inv).reverse
theorem bk_bk (w : List L) : bk (bk w) = w := by
  unfold bk
  rw [List.map_reverse, List.reverse_reverse, List.map_map]
  have : (inv ∘ inv) = id := funext fun x => inv_inv x
  rw [this, List.map_id]
theorem bk_length (w : List L) : (bk w).length = w.length := by simp [bk]
theorem bk_one (x : L) : bk [x] = [inv x] := rfl

/-- a letter put on a stack (its head is the last letter) -/
def push (st : List L) (x : L) : List L := match st with
  | [] => [x]
  | y :: r => if y = inv x then r else x :: y :: r
def act (w : List L) (st : List L) : List L := w.foldl push st
/-- a stack without a letter beside its back -/
def Rd : List L → Prop
  | [] => True
  | [_] => True
  | x :: y :: r => y ≠ inv x ∧ Rd (y :: r)
/-- what a word is reduced to -/
def red (w : List L) : List L := (act w []).reverse
/-- n times -/
def rep : Nat → List L → List L
  | 0, _ => []
  | n + 1, w => rep n w ++ w
/-- the n-th power, any sign -/
def pw (w : List L) (n : Int) : List L := rep n.natAbs (if n < 0 then bk w else w)

/-! the scan from the first place on -/
/-- no letter beside its back, among the first k -/
def RdTo (k : Nat) (w : List L) : Prop := ∀ i x y, i + 1 < k → w[i]? = some x → w[i + 1]? = some y → y ≠ inv x
end Wd
set_option Elab.async false
set_option linter.all false
set_option maxRecDepth 100000
/-! texts of words -/
namespace L2
open PySem PySem.Spec PyProof.Rows Wd

def cp (x : L) : Nat := if x.val < 6 then 97 + x.val else 59 + x.val
theorem cp_lt : ∀ x : L, cp x < 128 := by decide
theorem cp_inj : ∀ x y : L, cp x = cp y → x = y := by decide
def toS (w : List L) : Str := ⟨(w.map cp).toArray⟩
def tx (w : List L) : V := .str (toS w)
theorem toS_cps (w : List L) : (toS w).cps.toList = w.map cp := by simp [toS]
theorem toS_length (w : List L) : (toS w).length = w.length := by simp [toS, Str.length]
theorem toS_size (w : List L) : (toS w).cps.size = w.length := by simp [toS]
theorem toS_append (u v : List L) : toS u ++ toS v = toS (u ++ v) := by
  apply Str.ext'
  rw [Str.cps_append]
  simp [toS]
theorem map_cp_inj : ∀ {u v : List L}, u.map cp = v.map cp → u = v
  | [], [], _ => rfl
  | [], _ :: _, h => by simp at h
  | _ :: _, [], h => by simp at h
  | x :: u, y :: v, h => by
    simp only [List.map_cons, List.cons.injEq] at h
    rw [cp_inj x y h.1, map_cp_inj h.2]
theorem toS_inj {u v : List L} (h : toS u = toS v) : u = v := by
  have : (toS u).cps.toList = (toS v).cps.toList := by rw [h]
  rw [toS_cps, toS_cps] at this
  exact map_cp_inj this
theorem tx_inj {u v : List L} (h : tx u = tx v) : u = v := toS_inj (V.str.inj h)
theorem toS_nil : toS [] = ("" : Str) := by decide +kernel
theorem tx_nil : tx [] = V.str ("" : Str) := congrArg V.str toS_nil
theorem small : toS [0, 1, 2, 3, 4, 5] = ("abcdef" : Str) := by decide +kernel
theorem big : toS [6, 7, 8, 9, 10, 11] = ("ABCDEF" : Str) := by decide +kernel

/-! one sign -/
theorem sign_at {w : List L} {i c : Nat} (h : (toS w).cps[i]? = some c) : ∃ x, w[i]? = some x ∧ (⟨#[c]⟩ : Str) = toS [x] := by
  have h : ((w.map cp).toArray)[i]? = some c := h
  rw [List.getElem?_toArray, List.getElem?_map] at h
  cases e : w[i]? with
  | none => rw [e] at h; cases h
  | some x =>
    rw [e] at h
    have : cp x = c := Option.some.inj h
    exact ⟨x, rfl, by rw [← this]; rfl⟩
theorem atI_toS {w : List L} {k : Nat} {x : L} {i : Int} (hk : i = (k : Int)) (h : w[k]? = some x) : atI (toS w).cps.toList i = some (cp x) := by
  subst hk
  rw [toS_cps]
  obtain ⟨hl, e⟩ := List.getElem?_eq_some_iff.mp h
  unfold atI ixN
  rw [if_pos (by omega), if_pos (by rw [List.length_map]; omega)]
  show (w.map cp)[((k : Nat) : Int).toNat]? = _
  rw [Int.toNat_natCast, List.getElem?_map, h]
  rfl

/-! slices -/
def cutL (w : List L) (lo hi : Option Int) : List L := (w.drop (HT.sIx w.length 0 lo)).take (HT.sIx w.length w.length hi - HT.sIx w.length 0 lo)
theorem idx_gen (lo hi : Option Int) (n : Nat) : Builtin.Str.strSliceIndices lo hi 1 n = (List.range (HT.sIx n n hi - HT.sIx n 0 lo)).map (fun k => HT.sIx n 0 lo + k) := by
  have cl : ∀ v : Int, max (0 : Int) (min (if v < 0 then v + (n : Int) else v) (n : Int)) = (((if v < 0 then (v + (n : Int)).toNat else min v.toNat n) : Nat) : Int) := fun v => by
    by_cases hv : v < 0
    · simp only [if_pos hv]; omega
    · simp only [if_neg hv]; omega
  have fin : ∀ a b : Nat, sliceRange (a : Int) (b : Int) 1 = (List.range (b - a)).map (fun k => a + k) := fun a b => by
    unfold sliceRange
    simp only [show ((1 : Int) > 0) = True from by simp, if_true]
    by_cases hlt : (a : Int) < b
    · have e3 : (((b : Int) - a + 1 - 1) / 1).toNat = b - a := by first | omega | (simp; done) | (simp; omega)
      simp only [hlt, if_true, e3]
      exact List.map_congr_left fun k _ => by omega
    · have : b - a = 0 := by omega
      simp [hlt, this]
  unfold Builtin.Str.strSliceIndices
  simp only [show ((1 : Int) > 0) = True from by simp, if_true]
  cases lo with
  | none =>
    cases hi with
    | none => exact fin 0 n
    | some j => simp only [cl]; exact fin 0 _
  | some i =>
    cases hi with
    | none => simp only [cl]; exact fin _ n
    | some j => simp only [cl]; exact fin _ _
theorem slice_toS (w : List L) (lo hi : Option Int) : Txt.slice (toS w) lo hi = toS (cutL w lo hi) := by
  have h1 := HT.sIx_le w.length 0 (Nat.zero_le _) lo
  have h2 := HT.sIx_le w.length w.length (Nat.le_refl _) hi
  unfold Txt.slice
  rw [idx_gen, toS_length]
  split
  · rename_i h
    have hl : HT.sIx w.length w.length hi - HT.sIx w.length 0 lo = w.length := by simpa using h
    have e : cutL w lo hi = w := by
      unfold cutL
      rw [hl]
      have ha : HT.sIx w.length 0 lo = 0 ∨ w.length = 0 := by omega
      rcases ha with ha | ha
      · rw [ha, List.drop_zero, List.take_length]
      · have : w = [] := List.eq_nil_of_length_eq_zero ha
        subst this
        simp
    rw [e]
  · apply Str.ext'
    show (List.filterMap _ _).toArray = _
    have e := StrLaws.picks (w.map cp) (HT.sIx w.length w.length hi - HT.sIx w.length 0 lo) (HT.sIx w.length 0 lo)
    by_cases hle : HT.sIx w.length 0 lo ≤ HT.sIx w.length w.length hi
    · have e := e (by rw [List.length_map]; omega)
      have e2 : (fun k : Nat => (toS w).cps[k]?) = fun k : Nat => (w.map cp)[k]? := funext fun k => by simp [toS]
      rw [e2, e]
      simp [toS, cutL, List.map_take, List.map_drop]
    · have z : HT.sIx w.length w.length hi - HT.sIx w.length 0 lo = 0 := by omega
      rw [z]
      simp [toS, cutL, z]
theorem cut_to (w : List L) {n : Int} (h : 0 ≤ n) : cutL w none (some n) = w.take n.toNat := by
  obtain ⟨k, rfl⟩ := Int.eq_ofNat_of_zero_le h
  unfold cutL
  rw [HT.sIx_none, HT.sIx_nat, List.drop_zero, Nat.sub_zero, Int.toNat_natCast]
  by_cases hk : k ≤ w.length
  · rw [Nat.min_eq_left hk]
  · rw [Nat.min_eq_right (by omega), List.take_length, List.take_of_length_le (by omega)]
theorem cut_from (w : List L) {n : Int} (h : 0 ≤ n) : cutL w (some n) none = w.drop n.toNat := by
  obtain ⟨k, rfl⟩ := Int.eq_ofNat_of_zero_le h
  unfold cutL
  rw [HT.sIx_none, HT.sIx_nat, Int.toNat_natCast]
  by_cases hk : k ≤ w.length
  · rw [Nat.min_eq_left hk, List.take_of_length_le (by rw [List.length_drop]; omega)]
  · rw [Nat.min_eq_right (by omega), List.drop_length, List.drop_eq_nil_of_le (by omega)]
    simp
theorem cut_length (w : List L) (lo hi : Option Int) : (cutL w lo hi).length ≤ w.length := by
  unfold cutL
  rw [List.length_take, List.length_drop]
  omega

/-! upper, lower, in 'abcdef', join, repr, times -/
theorem upper_toS (w : List L) : Txt.upper (toS w) = ⟨((w.map cp).map up1).toArray⟩ := by
  rw [upper_ascii fun c hc => by rw [toS_cps] at hc; obtain ⟨x, _, rfl⟩ := List.mem_map.mp hc; exact cp_lt x]
  simp [toS]
theorem lower_toS (w : List L) : Txt.lower (toS w) = ⟨((w.map cp).map lo1).toArray⟩ := by
  rw [lower_ascii fun c hc => by rw [toS_cps] at hc; obtain ⟨x, _, rfl⟩ := List.mem_map.mp hc; exact cp_lt x]
  simp [toS]
theorem up_cp : ∀ x : L, x.val < 6 → up1 (cp x) = cp (inv x) := by decide
theorem lo_cp : ∀ x : L, ¬ x.val < 6 → lo1 (cp x) = cp (inv x) := by decide
theorem upper_one {x : L} (h : x.val < 6) : Txt.upper (toS [x]) = toS [inv x] := by
  rw [upper_toS]
  show (⟨#[up1 (cp x)]⟩ : Str) = ⟨#[cp (inv x)]⟩
  rw [up_cp x h]
theorem lower_one {x : L} (h : ¬ x.val < 6) : Txt.lower (toS [x]) = toS [inv x] := by
  rw [lower_toS]
  show (⟨#[lo1 (cp x)]⟩ : Str) = ⟨#[cp (inv x)]⟩
  rw [lo_cp x h]
theorem join_one : ∀ w : List L, Txt.join ("" : Str) (w.map fun x => toS [x]) = toS w := by
  intro w
  have e0 : ("" : Str) = Str.empty := by decide +kernel
  unfold Txt.join
  rw [StrLaws.glued_eq_join, e0]
  induction w with
  | nil => rfl
  | cons x r ih =>
    cases r with
    | nil => rfl
    | cons y r =>
      show toS [x] ++ Str.empty ++ Str.join Str.empty ((y :: r).map fun x => toS [x]) = _
      rw [ih, Str.append_empty, toS_append]
      rfl
theorem sum_one (w : List L) : ((w.map fun x => toS [x]).map (·.length)).sum = w.length := by
  induction w with
  | nil => rfl
  | cons x r ih =>
    simp only [List.map_cons, List.sum_cons, List.length_cons]
    rw [ih, toS_length]
    simp only [List.length_singleton]
    omega
end L2
set_option Elab.async false
set_option linter.all false
set_option maxRecDepth 100000
namespace L2
open PySem PySem.Spec PyProof.Rows Wd

/-! ### a def of the module by its promise -/
structure Fnc (P : Program) (w : World) (K : PySem.W.Frag) (mg : Str → Option Value) (base : Heap) (x : Str) (ps : List Str) (k : Nat) (sp : Sp) : Prop where
  ex : ∃ (f : Addr) (fd : FuncData), mg x = some (.ref f) ∧ PySem.W.keepIn K (.ref f) = true ∧ Binds K fd ps [] ∧ FnOk P w K mg base CX0 k f fd ps sp
theorem pe_fn {X : Cx} {x : Str} {ps : List Str} {k j : Nat} {sp : Sp} {e : Expr} {es : List Expr} {t : TA} {p pos : Pos} (F : Fnc X.prog X.w X.K X.mg X.base x ps j sp) (hr : Room k X.A) (hj : j ≤ k) (hg : Gl X x) (ha : PA X (e :: es) t)
    (hdb : (x == ("__debug__" : Str)) = false := by decide) (he : starEach (e :: es) X.env = (false, eval e X.env) :: starEach es X.env := by rfl) (hpl : (backTo pos (starEach es X.env)).any (·.1) = false := by rfl) :
    PE X (.Call (.Name x p) (e :: es) [] pos) (tCall sp [] E0 t) := by
  obtain ⟨f, fd, hm, hk, hb, F⟩ := F.ex
  exact pe_call F (hr.mono hj) hg hm hk hb .nil pass0 ha hdb he hpl
/-- a def that stands in the module -/
structure Df (K : PySem.W.Frag) (mg : Str → Option Value) (x : Str) (st : Stmt) : Prop where
  ex : ∃ (f : Addr) (fd : FuncData), mg x = some (.ref f) ∧ Fun K x x st f fd
theorem Df.ok {P : Program} {w : World} {K : PySem.W.Frag} {mg : Str → Option Value} {base : Heap} {x : Str} {st : Stmt} {N ps : List Str} {k : Nat} {sp : Sp} (D : Df K mg x st) (S : FnScope N ps (defScope st))
    (hb : ∀ (kV doc pm : Value) (an : Option Addr) (cdv ct : Value) (us : List Value), us.length = ps.length → bindArgs (PySem.W.fnOf x x (defArgs st) (defBody st) (defScope st) .none kV doc pm an cdv ct) ⟨us, []⟩ = pure (ps.zip us))
    (len : ∀ vs H Q E, sp vs H Q E → vs.length = ps.length)
    (hbody : ∀ (f : Addr) (cdv : Value) (A : Around) (outer : List Env) (s : Shared) (H : Hp) (vs : List V) (Q : VK) (E : XK), Room k (A.deeper (envOfC x (defScope st) s.heap.objs.size f cdv)) → sp vs H Q E →
      ∃ t, PSs (cxOf CX0 P w K mg base N x (defScope st) f cdv A outer s H E).nox (defBody st) t ∧ t { nx := fun _ H' => Q .non H', rt := Q } (start N vs) H) : Fnc P w K mg base x ps (k + 1) sp := by
  obtain ⟨f, fd, hm, F⟩ := D.ex
  exact ⟨f, fd, hm, F.kp, F.binds hb, F.ok S len fun cdv A outer s H vs Q E hr h => hbody f cdv A outer s H vs Q E hr h⟩

/-! ### what stays -/
/-- all that was tracked, but what stands at d, is as it was -/
def SameB (d : Addr) (H H' : Hp) : Prop := ∀ b o, b ≠ d → H b = some o → H' b = some o
theorem SameB.refl (d : Addr) (H : Hp) : SameB d H H := fun _ _ _ h => h
theorem SameB.trans {d : Addr} {H H1 H2 : Hp} (a : SameB d H H1) (b : SameB d H1 H2) : SameB d H H2 := fun c o n h => b c o n (a c o n h)
theorem Same.b {d : Addr} {H H' : Hp} (a : Same H H') : SameB d H H' := fun b o _ h => a b o h
theorem Same.new {H : Hp} {a : Addr} {o : HO} (h : H a = none) : Same H (upd H a o) := fun b u e => by rw [upd_ne (ne_of_none e h)]; exact e
theorem SameB.upd {d : Addr} {H : Hp} {o : HO} : SameB d H (upd H d o) := fun b u n e => by rw [upd_ne n]; exact e

/-! ### the feed of draws -/
def kS (x : Str) : Key := .inr x
def fkv (c : Addr) (i l t : Int) : List (Key × V) := [(kS "cells", .ref c), (kS "at", .int i), (kS "left", .int l), (kS "turn", .int t)]

/-- a feed stands at d, its cells at c -/
structure Fd (H : Hp) (d : Addr) : Prop where
  ex : ∃ (c : Addr) (i l t : Int) (ns : List Int), H d = some (.dK (fkv c i l t)) ∧ H c = some (.lst (ns.map V.int)) ∧ ns ≠ [] ∧ ns.length ≤ 64
def spDraw : Sp := fun vs H Q _ => ∃ (d : Addr) (m : Int), vs = [.ref d, .int m] ∧ Fd H d ∧ 0 < m ∧ m < 1000000 ∧ ∀ (r : Int) (H' : Hp), 0 ≤ r → r < m → Fd H' d → SameB d H H' → Q (.int r) H'
def spFeed (K : PySem.W.Frag) : Sp := fun vs H Q _ => ∃ (a : Addr) (ns : List Int), vs = [.ref a] ∧ SqL K H a (ns.map V.int) ∧ ns.length ≤ 63 ∧ ∀ (d : Addr) (H' : Hp), H d = none → Fd H' d → Same H H' → Q (.ref d) H'
/-- the cell that a draw reads -/
theorem cell_at {ns : List Int} (h : ns ≠ []) (i : Int) : ∃ n : Int, atI (ns.map V.int) (i % ((ns.map V.int).length : Int)) = some (.int n) := by
  have hl : 0 < ns.length := List.length_pos_iff.mpr h
  rw [List.length_map]
  have h0 := Int.emod_nonneg i (show (ns.length : Int) ≠ 0 by omega)
  have h1 := Int.emod_lt_of_pos i (show (0 : Int) < ns.length by omega)
  obtain ⟨k, hk⟩ := Int.eq_ofNat_of_zero_le h0
  rw [hk] at h1 ⊢
  have hk' : k < ns.length := by omega
  refine ⟨ns[k], ?_⟩
  unfold atI ixN
  rw [if_pos (by omega), if_pos (by rw [List.length_map]; omega)]
  show (ns.map V.int)[((k : Nat) : Int).toNat]? = _
  rw [Int.toNat_natCast, List.getElem?_map, List.getElem?_eq_getElem hk']
  rfl
end L2
set_option Elab.async false
set_option linter.all false
set_option maxRecDepth 100000
/-! ### repr of plain data, min and sorted of texts -/
namespace L2
open PySem PySem.Spec PyProof.Rows Wd
mutual
/-- a value as plain data -/
inductive Dt (H : Hp) : V → PyData → Prop where
  | non : Dt H .non .none
  | bl (b : Bool) : Dt H (.bl b) (.bool b)
  | int (i : Int) : Dt H (.int i) (.int i)
  | str (x : Str) : Dt H (.str x) (.str x)
  | lst {a : Addr} {xs : List V} {ds : List PyData} : H a = some (.lst xs) → Dts H xs ds → Dt H (.ref a) (.list ds)
  | tup {a : Addr} {xs : List V} {ds : List PyData} : H a = some (.tup xs) → Dts H xs ds → Dt H (.ref a) (.tuple ds)
inductive Dts (H : Hp) : List V → List PyData → Prop where
  | nil : Dts H [] []
  | cons {v : V} {d : PyData} {vs : List V} {ds : List PyData} : Dt H v d → Dts H vs ds → Dts H (v :: vs) (d :: ds)
end
section
variable {P : Program} {w : World} {H : Hp} {h : Heap}
mutual
theorem Dt.reads (ok : HOk P w H h) : ∀ {v : V} {d : PyData}, Dt H v d → ∀ {u : Value}, RelV v u → ∃ as, Reads h u d as
  | _, _, .non, u, r => by cases r; exact ⟨_, .none⟩
  | _, _, .bl b, u, r => by cases r; exact ⟨_, .bool b⟩
  | _, _, .int i, u, r => by obtain ⟨t, rfl⟩ := r; exact ⟨_, .int i t⟩
  | _, _, .str x, u, r => by obtain ⟨t, rfl⟩ := r; exact ⟨_, .str x t⟩
  | _, _, .lst e q, u, r => by
    cases r
    obtain ⟨_, its, n, rv, g⟩ := ok _ _ e
    obtain ⟨as, ra⟩ := Dts.reads ok q rv
    exact ⟨_, .list g rfl rfl (by simpa using ra)⟩
  | _, _, .tup e q, u, r => by
    cases r
    obtain ⟨_, its, rv, ob, g, c, n, d⟩ := ok _ _ e
    obtain ⟨as, ra⟩ := Dts.reads ok q rv
    exact ⟨_, .tuple g c d (by simpa using ra)⟩
theorem Dts.reads (ok : HOk P w H h) : ∀ {vs : List V} {ds : List PyData}, Dts H vs ds → ∀ {us : List Value}, Vals vs us → ∃ as, ReadsAll h us ds as
  | _, _, .nil, _, r => by cases r; exact ⟨_, .nil⟩
  | _, _, .cons q qs, _, r => by
    cases r with
    | cons r rs =>
      obtain ⟨as, a1⟩ := Dt.reads ok q r
      obtain ⟨bs, a2⟩ := Dts.reads ok qs rs
      exact ⟨_, .cons a1 a2⟩
end
end
/-- data that may be shown -/
structure Sh (d : PyData) : Prop where
  sh : d.showable = true
  nd : d.hasDict = false
  dp : d.depth ≤ 10
  sz : d.shown.length ≤ sizeLine
section
variable {X : Cx}
end
/-! texts in order -/
/-- m stands among ys, and none of them ahead of it -/
def Least (m : Str) (ys : List Str) : Prop := m ∈ ys ∧ ∀ y ∈ ys, m.cps.toList ≤ y.cps.toList
theorem Least.one {m n : Str} {ys : List Str} (a : Least m ys) (b : Least n ys) : m = n :=
  Str.ext' (Array.toList_inj.mp (List.le_antisymm (a.2 n b.1) (b.2 m a.1)))
theorem least_rising : ∀ (r : List Str) (x : Str), risingS x r = true → Least x (x :: r)
  | [], x, _ => ⟨by simp, fun y hy => by rw [List.mem_singleton.mp hy]; exact List.le_refl _⟩
  | z :: r, x, h => by
    unfold risingS at h
    rw [Bool.and_eq_true] at h
    have h1 : x.cps.toList ≤ z.cps.toList := by
      have := h.1
      rw [ltCps_eq] at this
      exact List.not_lt.mp (by simpa using this)
    have ih := least_rising r z h.2
    refine ⟨by simp, fun y hy => ?_⟩
    rcases List.mem_cons.mp hy with e | hy
    · rw [e]; exact List.le_refl _
    · exact List.le_trans h1 (ih.2 y hy)
/-- the text at a place -/
def strAt (ys : List Str) (i : Nat) : Str := ys.getD i Str.empty
def btS (ys : List Str) (i j : Nat) : Bool := decide ((strAt ys i).cps.toList < (strAt ys j).cps.toList)
theorem best_least (ys : List Str) : ∀ k, argBest (btS ys) k ≤ k ∧ ∀ j, j ≤ k → (strAt ys (argBest (btS ys) k)).cps.toList ≤ (strAt ys j).cps.toList
  | 0 => ⟨Nat.le_refl _, fun j hj => by
    have : j = 0 := by omega
    subst this
    exact List.le_refl _⟩
  | k + 1 => by
    obtain ⟨h1, h2⟩ := best_least ys k
    have e : argBest (btS ys) (k + 1) = if btS ys (k + 1) (argBest (btS ys) k) = true then k + 1 else argBest (btS ys) k := rfl
    rw [e]
    by_cases h : btS ys (k + 1) (argBest (btS ys) k) = true
    · rw [if_pos h]
      have h : (strAt ys (k + 1)).cps.toList < (strAt ys (argBest (btS ys) k)).cps.toList := of_decide_eq_true h
      refine ⟨Nat.le_refl _, fun j hj => ?_⟩
      by_cases e : j = k + 1
      · subst e; exact List.le_refl _
      · exact List.le_trans (List.le_of_lt h) (h2 j (by omega))
    · rw [if_neg h]
      have h : ¬ (strAt ys (k + 1)).cps.toList < (strAt ys (argBest (btS ys) k)).cps.toList := fun z => h (decide_eq_true z)
      refine ⟨by omega, fun j hj => ?_⟩
      by_cases e : j = k + 1
      · subst e; exact List.not_lt.mp h
      · exact h2 j (by omega)
theorem strsAre_at : ∀ {us : List Value} {ys : List Str} {i : Nat} {v : Value}, StrsAre us ys → us[i]? = some v → ∃ t, v = .str (strAt ys i) t ∧ i < ys.length
  | _, _, _, _, .nil, h => by simp at h
  | _, _, 0, _, .cons y t r, h => by
    simp at h
    exact ⟨t, by rw [← h]; rfl, by simp⟩
  | _, _, i + 1, _, .cons y t r, h => by
    obtain ⟨t', e, l⟩ := strsAre_at (i := i) r (by simpa using h)
    exact ⟨t', e, by simpa using l⟩
theorem vals_of_strs : ∀ {us : List Value} {ys : List Str}, StrsAre us ys → Vals (ys.map V.str) us
  | _, _, .nil => .nil
  | _, _, .cons y t r => .cons ⟨t, rfl⟩ (vals_of_strs r)
section
variable {X : Cx}
theorem call_min_strs (hc : X.calm = true) : CallR X (.builtin "min") (fun xs H Q => ∃ l ys, xs = [.ref l] ∧ SqL X.K H l (ys.map V.str) ∧ ys ≠ [] ∧ ∀ m, Least m ys → Q (.str m) H) := by
  intro pins s σ H xs us Q I r h
  obtain ⟨l, ys, rfl, hq, hne, q⟩ := h
  obtain ⟨u, rfl, ru⟩ := vals1 r
  cases ru
  obtain ⟨its, rv, pl, _⟩ := I.list hq
  have hS := strsAre_of rv
  have hl := pl.isList
  have hlen : its.length = ys.length := by rw [← rv.length, List.length_map]
  have hpos : 0 < ys.length := List.length_pos_iff.mpr hne
  have hlt : l < s.heap.objs.size := by obtain ⟨_, e, _⟩ := hl; exact Heap.lt_size e
  refine call_min_walk (wpAny_pyIter_list hl ?_)
  refine ⟨_, _, _, _, _, _, btS ys, rfl, Walks.list (A := X.A.in1) (I.ok.hd hc) _ l (Nat.ne_of_lt hlt) its.toArray, ⟨⟨_, Heap.get?_push_size _ rfl, rfl, rfl⟩, hl.push _⟩, fun b hb => ?_, ?_, ?_, fun v h' tk hP hk => ?_⟩
  · show b < (s.heap.push _).objs.size
    rw [Heap.size_push]
    rcases List.mem_cons.mp hb with e | hb
    · rw [e]; exact Nat.lt_succ_self _
    · rw [List.mem_singleton.mp hb]; exact Nat.lt_succ_of_lt hlt
  · rw [List.size_toArray]; omega
  · intro i j vi vj s' Q' E' hi hj hQ'
    obtain ⟨t, rfl, _⟩ := strsAre_at hS (i := i) (by simpa using hi)
    obtain ⟨t', rfl, _⟩ := strsAre_at hS (i := j) (by simpa using hj)
    exact richCompare_gives (op := .Lt) (typeIs_str s' _ t) (typeIs_str s' _ t') F.slot_str_lt F.entry_str_lt (F.args_str_lt_2 _ _) (gives_str_lt _ _ t t') (fun x => nomatch x) hQ'
  · obtain ⟨t, rfl, hlt2⟩ := strsAre_at hS (by rw [List.getElem?_toArray] at hP; exact hP)
    have B := best_least ys (its.toArray.size - 1)
    have old : ∀ b o, s.heap.get? b = some o → h'.get? b = some o := fun b o e => hk b o (fun z => by rw [List.mem_singleton.mp z] at e; exact absurd (Heap.lt_size e) (Nat.lt_irrefl _)) (Heap.get?_push_of_some _ e)
    refine ⟨.str _, H, I.kept old, ⟨t, rfl⟩, q _ ⟨?_, fun y hy => ?_⟩⟩
    · unfold strAt
      rw [List.getD_eq_getElem?_getD, List.getElem?_eq_getElem hlt2]
      exact List.getElem_mem hlt2
    · obtain ⟨j, hj, e⟩ := List.mem_iff_getElem.mp hy
      have := B.2 j (by rw [List.size_toArray]; omega)
      have ej : strAt ys j = y := by unfold strAt; rw [List.getD_eq_getElem?_getD, List.getElem?_eq_getElem hj]; exact e
      rw [ej] at this
      exact this
end
end L2
set_option Elab.async false
set_option linter.all false
set_option maxRecDepth 100000
set_option maxHeartbeats 0
namespace Kx
open PySem PySem.Spec PyProof.Rows L2 Wd
theorem b_list : bootBuiltins "list" = some (.type "list") := by kernel_rfl
theorem b_int : bootBuiltins "int" = some (.type "int") := by kernel_rfl
theorem b_min : bootBuiltins "min" = some (.builtin "min") := by kernel_rfl
theorem b_sorted : bootBuiltins "sorted" = some (.builtin "sorted") := by kernel_rfl
theorem b_isinstance : bootBuiltins "isinstance" = some (.builtin "isinstance") := by kernel_rfl
theorem b_reversed : bootBuiltins "reversed" = some (.type "reversed") := by kernel_rfl
/-- what the module holds beside its defs -/
structure Bt (K : PySem.W.Frag) (w : World) (mg : Str → Option Value) (aB : Addr) : Prop where
  len : mg "len" = none
  repr : mg "repr" = none
  abs : mg "abs" = none
  max : mg "max" = none
  int : mg "int" = none
  list : mg "list" = none
  range : mg "range" = none
  reversed : mg "reversed" = none
  min : mg "min" = none
  sorted : mg "sorted" = none
  tuple : mg "tuple" = none
  isinstance : mg "isinstance" = none
  all : mg "all" = none
  str : mg "str" = none
  zip : mg "zip" = none
  mgB : mg "BACKS" = some (.ref aB)
  dB : DTx K w aB
  gB : ∀ x : L, ∃ t, PySem.W.nsIn K aB (toS [x]) = some (some (.str (toS [inv x]) t))
theorem cut63 {ns : List Int} (h : ns.length ≤ 63) : cutV (ns.map V.int) none (some 63) = ns.map V.int := by
  unfold cutV
  have e : HT.sIx (ns.map V.int).length (ns.map V.int).length (some 63) = (ns.map V.int).length := by
    have := HT.sIx_nat (ns.map V.int).length (ns.map V.int).length 63
    rw [show ((63 : Nat) : Int) = 63 from rfl] at this
    rw [this, List.length_map]
    omega
  rw [e, HT.sIx_none, List.drop_zero, Nat.sub_zero, List.take_length]
/-- a word's signs as a list of texts -/
def ones (w : List L) : List V := w.map fun x => tx [x]
theorem ones_str (w : List L) : ones w = (w.map fun x => toS [x]).map V.str := by unfold ones; rw [List.map_map]; rfl
theorem ones_snoc (w : List L) (x : L) : ones w ++ [tx [x]] = ones (w ++ [x]) := by unfold ones; rw [List.map_append]; rfl
theorem ones_length (w : List L) : (ones w).length = w.length := by unfold ones; rw [List.length_map]
theorem join_ones (w : List L) : V.str (Txt.join ("" : Str) (w.map fun x => toS [x])) = tx w := congrArg V.str (join_one w)
theorem join_room (w : List L) (h : w.length ≤ 1000000) : ((w.map fun x => toS [x]).map (·.length)).sum + (w.map fun x => toS [x]).length * ("" : Str).length ≤ 16777216 := by
  have e : ("" : Str).length = 0 := by decide +kernel
  rw [e, sum_one]
  omega
theorem line16 : sizeLine = 16777216 := sizeLine_eq
def spBk : Sp := fun vs H Q _ => ∃ w, vs = [tx w] ∧ w.length ≤ 5000 ∧ ∀ H', Same H H' → Q (tx (bk w)) H'
def spRed : Sp := fun vs H Q _ => ∃ w, vs = [tx w] ∧ w.length ≤ 5000 ∧ ∀ H', Same H H' → Q (tx (red w)) H'
def spTimes : Sp := fun vs H Q _ => ∃ u v, vs = [tx u, tx v] ∧ u.length + v.length ≤ 5000 ∧ ∀ H', Same H H' → Q (tx (red (u ++ v))) H'
def spPower : Sp := fun vs H Q _ => ∃ w n, vs = [tx w, .int n] ∧ w.length ≤ 60 ∧ -20 ≤ n ∧ n ≤ 20 ∧ ∀ H', Same H H' → Q (tx (red (pw w n))) H'
theorem tx_app (u v : List L) : V.str (toS u ++ toS v) = tx (u ++ v) := congrArg V.str (toS_append u v)
/-- the signs of the first m letters, small and great -/
def sg (m : Int) : List L := ([0, 1, 2, 3, 4, 5] : List L).take m.toNat ++ ([6, 7, 8, 9, 10, 11] : List L).take m.toNat
def spSome : Sp := fun vs H Q _ => ∃ (d : Addr) (m n : Int), vs = [.ref d, .int m, .int n] ∧ Fd H d ∧ 1 ≤ m ∧ m ≤ 6 ∧ 0 ≤ n ∧ n ≤ 60 ∧ ∀ (u : List L) (H' : Hp), u.length ≤ n.toNat → Fd H' d → SameB d H H' → Q (tx u) H'
def spDrawn : Sp := fun vs H Q _ => ∃ (d : Addr) (m n : Int), vs = [.ref d, .int m, .int n] ∧ Fd H d ∧ 1 ≤ m ∧ m ≤ 6 ∧ 4 ≤ n ∧ n ≤ 40 ∧ ∀ (u : List L) (H' : Hp), u.length ≤ 60 → Fd H' d → SameB d H H' → Q (tx u) H'
theorem len_sm : ("abcdef" : Str).length = 6 := by decide +kernel
theorem len_bg : ("ABCDEF" : Str).length = 6 := by decide +kernel
theorem bk_get (u : List L) {i : Nat} {y : L} (hi : i < u.length) (h : u[u.length - 1 - i]? = some y) : (bk u)[i]? = some (inv y) := by
  unfold bk
  rw [List.getElem?_reverse (by rw [List.length_map]; exact hi), List.length_map, List.getElem?_map, h]
  rfl
theorem take_snoc {u : List L} {i : Nat} {x : L} (h : u[i]? = some x) : u.take (i + 1) = u.take i ++ [x] := by
  obtain ⟨hl, e⟩ := List.getElem?_eq_some_iff.mp h
  rw [List.take_add_one, h]
  rfl
theorem iteD {c : Bool} {A B : Prop} (hc : c = false) (h : B) : if c = true then A else B := by rw [hc]; exact iteF h
theorem sm6 : ∀ j : Fin 6, ([0, 1, 2, 3, 4, 5] : List L)[j.val]? = some ⟨j.val, Nat.lt_trans j.isLt (by decide)⟩ := by decide
/-! data of words, that may be shown -/
def dws (ws : List (List L)) : List PyData := ws.map fun w => .str (toS w)
theorem dts_txs {H : Hp} : ∀ (ws : List (List L)), Dts H (ws.map tx) (dws ws)
  | [] => .nil
  | w :: r => .cons (.str (toS w)) (dts_txs r)
end Kx
set_option Elab.async false
set_option linter.all false
set_option maxRecDepth 100000
/-! ### ranges that fall, find and count -/
namespace L2
open PySem PySem.Spec PyProof.Rows Wd
/-- lo, lo - 1, .. (n of them) -/
def Itd (lo : Int) (n : Nat) : It := ⟨fun i _ => i < n, fun i H x H' => H' = H ∧ x = .int (lo - i), fun i _ => i = n⟩
section
variable {X : Cx} {tg : Expr}
def iFall (ta : TA) : TI := fun σ H R => ta σ H fun vs H1 => ∃ i j : Int, vs = [.int i, .int j, .int (-1)] ∧ j ≤ i ∧ -(2 ^ 60) ≤ j ∧ i < 2 ^ 60 ∧ R (Itd i (i - j).toNat) H1
def rFind : V → List V → Hp → VK → Prop := fun x vs H Q => ∃ z y i, x = .str z ∧ vs = [.str y, .int i] ∧ Q (.int (Txt.find3 z y i)) H
def rCount : V → List V → Hp → VK → Prop := fun x vs H Q => ∃ z y, x = .str z ∧ vs = [.str y] ∧ Q (.int (Txt.count z y)) H
end

/-! methods within a block: the written part named -/
section
variable {X : Cx} {o e : Expr} {es : List Expr} {to : TE} {t : TA} {name : Str} {apos cpos : Pos} {T id : String} {r : V → List V → Hp → VK → Prop} {K : PySem.W.Frag}
theorem pe_bm0K (hK : X.K = K) (pa : PlainAttrs T) (slot : Slot T name id) (hty : typeOf (.builtin id) = pure (.type "method_descriptor")) (hm : MtR X id r) (ho : PE X o to)
    (hbase : attributeBase o name X.env (eval o X.env) = eval o X.env := by rfl) (hline : (apos.endLine == cpos.line) = true := by rfl) : PE X (.Call (.Attribute o name apos) [] [] cpos) (tBM0 K T r to) := by
  subst hK
  exact pe_bm0 pa slot hty hm ho hbase hline
end

/-! count of one sign -/
end L2
set_option Elab.async false
set_option linter.all false
set_option maxRecDepth 100000
/-! ### lists against [], all, isinstance, index, list(text), repr of a bool, in a dict of the top -/
namespace L2
open PySem PySem.Spec PyProof.Rows Wd
section
variable {X : Cx}
def rEqNil : R2 := fun x y H Q => ∃ a b xs, x = .ref a ∧ y = .ref b ∧ H a = some (.lst xs) ∧ H b = some (.lst []) ∧ Q (.bl xs.isEmpty) H
def rAll (K : PySem.W.Frag) : List V → Hp → VK → Prop := fun xs H Q => ∃ (l : Addr) (bs : List Bool), xs = [.ref l] ∧ SqL K H l (bs.map V.bl) ∧ Q (.bl (bs.all id)) H
theorem call_isinst : CallR X (.builtin "isinstance") (fun xs H Q => ∃ x t b n, xs = [x, .ty n] ∧ TyOf X.K H x t ∧ PySem.W.kitOne X.K t (.type n) = some b ∧ Q (.bl b) H) := by
  intro pins s σ H xs us Q I r h
  obtain ⟨x, t, b, n, rfl, ty, e, q⟩ := h
  obtain ⟨u, u2, rfl, rx, r2⟩ := vals2 r
  cases r2
  exact isinst_ok I rx ty e fun tk => ⟨.bl b, H, I.tok _, rfl, q⟩
def tKIn (K : PySem.W.Frag) (a : Addr) (to : TE) : TE := fun σ H Q => to σ H fun y H1 => ∃ (z : Str) (r : Option Value), y = .str z ∧ PySem.W.nsIn K a z = some r ∧ Q (.bl r.isSome) H1
def rIndex : V → List V → Hp → VK → Prop := fun x vs H Q => ∃ z y i rest, x = .str z ∧ vs = [.str y] ∧ Builtin.Str.occurrences z y 0 z.length 1 = i :: rest ∧ Q (.int (i : Nat)) H
theorem mt_index : MtR X "str.index" rIndex := by
  intro pins s σ H x vs v us Q I rx rv h
  obtain ⟨z, y, i, rest, rfl, rfl, ho, q⟩ := h
  obtain ⟨t, rfl⟩ := rx
  obtain ⟨u1, rfl, ⟨t1, rfl⟩⟩ := vals1 rv
  exact SC.index ho ⟨.int _, H, I.tok _, ⟨_, rfl⟩, q⟩
/-- the signs of a text, a list of texts -/
def signs (z : Str) : List V := z.cps.toList.map fun c => .str ⟨#[c]⟩
theorem vals_signs {z : Str} {acc : Array Value} (h : ItemsOf (SignAt z) acc z.cps.size) : Vals (signs z) acc.toList := by
  have all : ∀ (cs : List Nat) (us : List Value), cs.length = us.length → (∀ (j : Nat) (v : Value), us[j]? = some v → ∃ c u, cs[j]? = some c ∧ v = .str ⟨#[c]⟩ u) → Vals (cs.map fun c => V.str ⟨#[c]⟩) us := by
    intro cs
    induction cs with
    | nil =>
      intro us hl _
      cases us with
      | nil => exact .nil
      | cons _ _ => simp at hl
    | cons c cs ih =>
      intro us hl hh
      cases us with
      | nil => simp at hl
      | cons u us =>
        obtain ⟨c', t, e1, e2⟩ := hh 0 u rfl
        have : c = c' := Option.some.inj e1
        subst this
        exact .cons ⟨t, e2⟩ (ih us (by simpa using hl) fun j v hj => hh (j + 1) v (by simpa using hj))
  refine all _ _ (by rw [Array.length_toList, Array.length_toList]; exact h.1.symm) fun j v hj => ?_
  obtain ⟨c, u, e1, e2⟩ := h.2 j v (by simpa using hj)
  exact ⟨c, u, by simpa using e1, e2⟩
theorem call_list_signs (hc : X.calm = true) : CallR X (.type "list") (fun xs H Q => ∃ z, xs = [.str z] ∧ z.length ≤ sizeLine ∧ ∀ p, H p = none → Q (.ref p) (upd H p (.lst (signs z)))) := by
  intro pins s σ H xs us Q I r h
  obtain ⟨z, rfl, hz, q⟩ := h
  obtain ⟨u, rfl, t, rfl⟩ := vals1 r
  refine call_list_str (I.ok.hd hc) z t (fun h' tk acc' c' kp e hI => ?_) hz
  have hl : (signs z).length ≤ sizeLine := by unfold signs; rw [List.length_map, Array.length_toList]; exact hz
  exact ⟨.ref s.heap.objs.size, _, I.laid kp (Nat.le_refl _) (show ObjOk X.prog X.w _ h' _ (.lst (signs z)) from ⟨hl, acc'.toList, c', vals_signs hI, by simpa using e⟩), rfl, q _ (I.hok.fresh (Nat.le_refl _))⟩
end
end L2
set_option Elab.async false
set_option linter.all false
set_option maxRecDepth 100000
/-! ### zip of two texts of plain signs -/
namespace PySem
open Sem (wp)
/-- the five records of a zip stand apart -/
structure Ap5 (z TI TO i1 i2 : Addr) : Prop where
  TIz : TI ≠ z
  TOz : TO ≠ z
  i1z : i1 ≠ z
  i2z : i2 ≠ z
  TITO : TI ≠ TO
  TIi1 : TI ≠ i1
  TIi2 : TI ≠ i2
  TOi1 : TO ≠ i1
  TOi2 : TO ≠ i2
  i12 : i1 ≠ i2
abbrev AsIt (h : Heap) (i : Addr) (x : Str) (t : Tok) (k : Nat) : Prop := h.IsStrIter i "str_ascii_iterator" x t k
section
variable {prog : Program} {w : World} {A : Around} {E : Value → Shared → Prop} {s : Shared} {z TI TO i1 i2 : Addr} {x y : Str} {t u : Tok} {k c d : Nat} {a b : Value}
end
abbrev zs1 (h : Heap) (x : Str) (t : Tok) : Heap := h.push { cls := .type "str_ascii_iterator", data := .fields #[.str x t, .int 0 0] }
abbrev zs2 (h : Heap) (x y : Str) (t u : Tok) : Heap := (zs1 h x t).push { cls := .type "str_ascii_iterator", data := .fields #[.str y u, .int 0 0] }
abbrev zs3 (h : Heap) (x y : Str) (t u : Tok) : Heap := (zs2 h x y t u).push { cls := .type "tuple", data := .seq #[.ref h.objs.size, .ref (zs1 h x t).objs.size] }
abbrev zs4 (h : Heap) (x y : Str) (t u : Tok) : Heap := (zs3 h x y t u).push { cls := .type "tuple", data := .seq #[.none, .none] }
abbrev zs5 (h : Heap) (x y : Str) (t u : Tok) : Heap := (zs4 h x y t u).push { cls := .type "zip", data := .fields #[.none, .bool false, .bool false, .ref (zs2 h x y t u).objs.size, .ref (zs3 h x y t u).objs.size] }
end PySem
set_option Elab.async false
set_option linter.all false
set_option maxRecDepth 100000
namespace PySem
end PySem
namespace L2
open PySem PySem.Spec PyProof.Rows
/-- pairs of signs of two texts, each pair a new tuple -/
def Itz (x y : Str) : It := ⟨fun i _ => i < min x.cps.size y.cps.size,
  fun i H v H' => ∃ (T : Addr) (c d : Nat), H T = none ∧ v = .ref T ∧ x.cps[i]? = some c ∧ y.cps[i]? = some d ∧ H' = upd H T (.tup [.str ⟨#[c]⟩, .str ⟨#[d]⟩]),
  fun i _ => i = min x.cps.size y.cps.size⟩
section
variable {X : Cx}
def iZip (ta : TA) : TI := fun σ H R => ta σ H fun vs H1 => ∃ x y, vs = [.str x, .str y] ∧ x.cps.all (· < 128) = true ∧ y.cps.all (· < 128) = true ∧ R (Itz x y) H1
end
end L2
set_option Elab.async false
set_option linter.all false
set_option maxRecDepth 100000
set_option maxHeartbeats 0
namespace L2
open PySem PySem.Spec PyProof.Rows Wd
def notStar : Expr → Bool
  | .Starred _ _ => false
  | _ => true
def litE : Expr → Option V
  | .Constant .none _ _ => some .non
  | .Constant (.bool b) _ _ => some (.bl b)
  | .Constant (.int i) _ _ => some (.int i)
  | .Constant (.str x) _ _ => some (.str x)
  | .BinOp (.Constant (.int i) _ _) .Pow (.Constant (.int j) _ _) _ => if 0 ≤ j ∧ j ≤ 1000000 ∧ i.natAbs < 2 ^ 64 then some (.int (i ^ j.toNat)) else none
  | _ => none
def litEs : List Expr → Option (List V)
  | [] => some []
  | e :: r => match litE e, litEs r with
    | some v, some vs => some (v :: vs)
    | _, _ => none
theorem call_isK {X : Cx} {K : PySem.W.Frag} (hK : X.K = K) : CallR X (.builtin "isinstance") (fun xs H Q => ∃ x t b n, xs = [x, .ty n] ∧ TyOf K H x t ∧ PySem.W.kitOne K t (.type n) = some b ∧ Q (.bl b) H) := by
  subst hK
  exact call_isinst
/-! ### letters and words among plain things -/
def ltr (c : Nat) : Option L := ([0, 1, 2, 3, 4, 5, 6, 7, 8, 9, 10, 11] : List L).find? fun x => cp x == c
def isLet (z : Str) : Bool := match z.cps.toList with
  | [c] => (ltr c).isSome
  | _ => false
def okC (m : Int) (c : Nat) : Bool := match ltr c with
  | some x => decide (((x.val % 6 : Nat) : Int) < m)
  | none => false
def isW (m : Int) (z : Str) : Bool := z.cps.toList.all (okC m)
def letV : V → Bool
  | .str z => isLet z
  | _ => false
def wdV (m : Int) : V → Bool
  | .str z => isW m z
  | _ => false
/-- a plain thing: a text, or something that is none -/
inductive Th (K : PySem.W.Frag) (H : Hp) : V → Prop
  | str (z : Str) (h : z.length ≤ 500) : Th K H (.str z)
  | oth {x : V} {n : String} (ty : TyOf K H x (.type n)) (e : PySem.W.kitOne K (.type n) (.type "str") = some false) (ns : ∀ z, x ≠ .str z) : Th K H x
/-- the keys of a dict of the top are the letters -/
structure Bk (K : PySem.W.Frag) (a : Addr) : Prop where
  lo : (a == sysModules) = false
  all : ∀ z : Str, ∃ r, PySem.W.nsIn K a z = some r ∧ r.isSome = isLet z
def keyT (e : DictEntry) : Str := match e.key with
  | .str x _ => x
  | _ => ""
def letters : List Str := ([0, 1, 2, 3, 4, 5, 6, 7, 8, 9, 10, 11] : List L).map fun x => toS [x]
end L2
namespace Kx
open PySem PySem.Spec PyProof.Rows L2 Wd
def spLetter (K : PySem.W.Frag) : Sp := fun vs H Q _ => ∃ x, vs = [x] ∧ Th K H x ∧ Q (.bl (letV x)) H
def spNum : Sp := fun vs H Q _ => ∃ x : L, vs = [tx [x]] ∧ Q (.int ((x.val % 6 : Nat) : Int)) H
def spIsW (K : PySem.W.Frag) : Sp := fun vs H Q _ => ∃ (m : Int) (x : V), vs = [.int m, x] ∧ 1 ≤ m ∧ m ≤ 6 ∧ Th K H x ∧ ∀ H', Same H H' → Q (.bl (wdV m x)) H'
def spIsRed : Sp := fun vs H Q _ => ∃ u, vs = [tx u] ∧ u.length ≤ 500 ∧ ∀ H', Same H H' → Q (.bl (decide (red u = u))) H'
/-- round: reduced, and so when closed to a ring -/
def rndB (u : List L) : Bool := decide (red u = u) && (decide (u = []) || !decide (u.getLast? = u.head?.map inv))
def chk (u : List L) : List Bool := List.zipWith (fun x y => !decide (tx [inv x] = tx [y])) u (u.drop 1)
def spIsRound : Sp := fun vs H Q _ => ∃ u, vs = [tx u] ∧ u.length ≤ 500 ∧ ∀ H', Same H H' → Q (.bl (rndB u)) H'
def spThings (K : PySem.W.Frag) : Sp := fun vs H Q _ => vs = [] ∧ ∀ (l : Addr) (xs : List V) (H' : Hp), H' l = some (.lst xs) → (∀ x ∈ xs, Th K H' x) → Same H H' → Q (.ref l) H'
def spThingR (K : PySem.W.Frag) : Sp := fun vs H Q _ => ∃ x, vs = [x] ∧ Th K H x ∧ ∀ H', Same H H' → Q (.bl true) H'
def spWordR : Sp := fun vs H Q _ => ∃ u, vs = [tx u] ∧ u.length ≤ 500 ∧ ∀ H', Same H H' → Q (.bl true) H'
end Kx
set_option Elab.async false
set_option linter.all false
set_option maxRecDepth 100000
set_option maxHeartbeats 0
namespace L2
open PySem PySem.Spec PyProof.Rows Wd
section
variable {X : Cx}
def rNeNil : R2 := fun x y H Q => ∃ a b xs, x = .ref a ∧ y = .ref b ∧ H a = some (.lst xs) ∧ H b = some (.lst []) ∧ Q (.bl (!xs.isEmpty)) H
theorem op_ne_nil (hu : X.A.units + 64 < cLine) : OpR X (compareOp .NotEq) rNeNil := by
  intro pins s σ H x y v u Q I rx ry h
  obtain ⟨a, b, xs, rfl, rfl, ha, hb, q⟩ := h
  cases rx
  cases ry
  obtain ⟨its, n, rv, ea, _⟩ := I.lst ha
  obtain ⟨its2, n2, rv2, eb, _⟩ := I.lst hb
  cases rv2
  have hla : s.heap.IsList a its.toArray := ⟨_, ea, rfl, _, rfl⟩
  have hlb : s.heap.IsList b ([] : List Value).toArray := ⟨_, eb, rfl, _, rfl⟩
  cases xs with
  | nil =>
    cases rv
    refine EqBoolInt.of_rcne (SeqAt.RcNeAt.lists (e := fun _ => true) hla hlb rfl (by omega) (fun j hj => by simp at hj)) ?_
    exact ⟨.bl false, H, I, rfl, q⟩
  | cons z r =>
    cases rv with
    | cons r1 r2 =>
      refine EqBoolInt.of_rcne (SeqAt.RcNeAt.lists_lengths hla hlb (by simp) (by omega)) ?_
      exact ⟨.bl true, H, I, rfl, q⟩
end
/-- all that was tracked, but what stands at some places, is as it was -/
def SameX (ex : List Addr) (H H' : Hp) : Prop := ∀ b o, b ∉ ex → H b = some o → H' b = some o
/-- a plain thing that stands at none of these places -/
structure Thx (K : PySem.W.Frag) (ex : List Addr) (H : Hp) (x : V) : Prop where
  th : Th K H x
  ne : ∀ a ∈ ex, x ≠ .ref a
end L2
namespace Kx
open PySem PySem.Spec PyProof.Rows L2 Wd
/-- the word that a text is -/
def ofS (z : Str) : Option (List L) := z.cps.toList.mapM ltr
/-- a ring: a round word, not void, not too long -/
def ringB (u : List L) : Bool := decide (1 ≤ u.length) && decide (u.length ≤ 120) && rndB u
def ringV : V → Bool
  | .str z => match ofS z with
    | some u => ringB u
    | none => false
  | _ => false
def spRing (K : PySem.W.Frag) : Sp := fun vs H Q _ => ∃ x, vs = [x] ∧ Th K H x ∧ ∀ H', Same H H' → Q (.bl (ringV x)) H'
/-- a thing that may be rings, whether it is -/
inductive Tg (K : PySem.W.Frag) (ex : List Addr) (H : Hp) : V → Bool → Prop
  | tup {a : Addr} {xs : List V} (h : H a = some (.tup xs)) (hn : a ∉ ex) (hx : ∀ y ∈ xs, Thx K ex H y) (hl : xs.length ≤ 100) : Tg K ex H (.ref a) (decide (xs.length ≤ 6) && xs.all ringV)
  | oth {x : V} {n : String} (ty : TyOf K H x (.type n)) (e : PySem.W.kitOne K (.type n) (.type "tuple") = some false) (hn : ∀ a ∈ ex, x ≠ .ref a) : Tg K ex H x false
def spRings (K : PySem.W.Frag) : Sp := fun vs H Q _ => ∃ x ex b, vs = [x] ∧ Tg K ex H x b ∧ ∀ H', Same H H' → Q (.bl b) H'
/-- a word, and its first letter once more -/
def agn (u : List L) : List L := u ++ u.take 1
def badK (u : List L) (k : Nat) : Bool := decide ((agn u)[k + 1]? = ((agn u)[k]?).map inv)
def spRingD : Sp := fun vs H Q _ => ∃ d, vs = [.ref d] ∧ Fd H d ∧ ∀ (u : List L) (H' : Hp), u.length ≤ 500 → Fd H' d → SameB d H H' → Q (tx u) H'
def spOdd (K : PySem.W.Frag) : Sp := fun vs H Q _ => ∃ d, vs = [.ref d] ∧ Fd H d ∧ ∀ (x : V) (H' : Hp), Th K H' x → (∀ a, x = .ref a → H a = none) → Fd H' d → SameB d H H' → Q x H'
end Kx
namespace L2
open PySem PySem.Spec PyProof.Rows Wd
end L2
namespace L2
open PySem PySem.Spec PyProof.Rows Wd
end L2
namespace L2
open PySem PySem.Spec PyProof.Rows Wd
end L2
namespace L2
open PySem PySem.Spec PyProof.Rows Wd
end L2
namespace L2
open PySem PySem.Spec PyProof.Rows Wd
/-- a plain thing, and where it stands nothing stood before -/
structure ThF (K : PySem.W.Frag) (H0 H : Hp) (x : V) : Prop where
  th : Th K H x
  new : ∀ a, x = .ref a → H0 a = none
end L2
set_option Elab.async false
set_option linter.all false
set_option maxRecDepth 100000
/-! ### a name that takes a comprehension's list -/
namespace L2
open PySem PySem.Spec PyProof.Rows
theorem ps_setC {X : Cx} {i : Nat} {y : Str} {py spos : Pos} {elt iter tg : Expr} {ifs : List Expr} {scope : Scope} {pos : Pos} {NB own : List Str} {cap : List Nat} {wi : TI} {g : TG} {ti : TT} {te : TE} (hN : X.N.Nodup) (hi0 : X.N[i]? = some y) (hx : Loc X.env.scope y) (B : Blk X scope NB own cap) (hc : X.calm = true) (hi : PI X tg iter wi)
    (hg : ∀ C fp s₀ H₀, PG (cxB X NB own scope C fp s₀ H₀) tg g) (ht : ∀ C fp s₀ H₀, PIf (cxB X NB own scope C fp s₀ H₀) ifs ti) (he : ∀ C fp s₀ H₀, PE (cxB X NB own scope C fp s₀ H₀) elt te)
    (hs : ∀ x, foldedSetIterable iter X.env x = pure x := by intro _; rfl) (hsw : swapsWith (.ListComp elt [⟨tg, iter, ifs, 0⟩] scope pos) (some (.Name y py)) spos.line X.env = pure true := by rfl) (hf : X.fn y = true ∨ X.env.scope.names.lookup y = some .local := by first | exact .inl rfl | exact .inr rfl | assumption) : PS X (.Assign [.Name y py] (.ListComp elt [⟨tg, iter, ifs, 0⟩] scope pos) spos) (tAsg (tComp own cap wi g ti te) (gName i)) := by
  intro pins s σ H DD I0 h
  rw [exec_Assign_Name_used _ _ _ _ hsw]
  refine wpAny_bind (wpAny_standAt (wpAny_bind ?_))
  show wpAny _ X.A (do let _ ← comprehension (.ListComp elt [⟨tg, iter, ifs, 0⟩] scope pos) scope X.env _ (newList []) false (eval iter X.env) (some (assign (.Name y py) X.env))) _ _ s
  have hclos := closureFor_is (env := X.env) (scope := scope) fun y hy e => I0.ok.has y.1 (.inl (B.free y hy e))
  refine wpAny_bind (wpAny_mono (wpAny_comprehension_free (use := some (assign (.Name y py) X.env)) (Q := fun _ s' => SP X pins DD .next s') rfl hs hclos B.kind B.names (thn (hi pins s σ H _ I0 h) fun v s1 h1 => thn h1 fun itv s2 h2 => ?_)) (fun _ s' hq => wpAny_pure (wpAny_pure hq)) fun _ _ e => e)
  obtain ⟨it, fp, tn, J, H2, rfl, I, T, st2, f2, W, ⟨m0, w0⟩, turn⟩ := h2
  refine wpAny_newList ?_
  refine wpAny_newFunctionEnv B.nocell (by intro y hy; simp at hy) (fun h₁ hns₁ hsb₁ => ?_) B.kind
  dsimp only at hns₁ hsb₁ ⊢
  generalize hP : s2.heap.push { cls := .type "list", dict := none, data := .seq ([] : List Value).toArray } = P at hns₁ hsb₁ ⊢
  have hC : P.objs.size = s2.heap.objs.size + 1 := by rw [← hP, Heap.size_push]
  have hDC : s2.heap.objs.size ≠ P.objs.size := by rw [hC]; exact Nat.ne_of_lt (Nat.lt_succ_self _)
  have hCle : s2.heap.objs.size ≤ P.objs.size := by rw [hC]; exact Nat.le_succ _
  have old : ∀ b o, s2.heap.get? b = some o → h₁.get? b = some o := fun b o e => by
    refine (hsb₁.2 b ?_).trans (Heap.get?_push_of_some _ (hP ▸ Heap.get?_push_of_some _ e))
    exact Nat.ne_of_lt (Nat.lt_of_lt_of_le (Heap.lt_size e) hCle)
  have hD : h₁.get? s2.heap.objs.size = some { cls := .type "list", data := .seq ([] : List Value).toArray 0 } := by
    refine (hsb₁.2 _ hDC).trans (Heap.get?_push_of_some _ ?_)
    rw [← hP]
    exact Heap.get?_push_size _ rfl
  have hfs : ∀ b ∈ fp, ∃ o, s2.heap.get? b = some o := fun b hb => let ⟨o, e, _⟩ := T.obj _ _ st2 b hb; ⟨o, e⟩
  have st4 : tn 0 h₁ := T.keep _ _ _ st2 fun b _ o e => old b o e
  generalize htk : s2.toks + ([] : List (Str × Value)).length = tk4
  have I4 := B.start (C := P.objs.size) (tk := tk4) I f2 hfs hCle old hns₁
  have fOk : ∀ {H' : Hp} {b : Addr} {ob : Obj}, b ∈ fp → H' b = none → FpOk (cxB X NB own scope P.objs.size fp s2 H2) [(s2.heap.objs.size, ob)] H' b := fun {H' b ob} hb hn => by
    obtain ⟨o, e⟩ := hfs b hb
    refine ⟨hn, (I4.ok.exf b hb).1, I4.ok.exfs b hb, .inl hb, (I4.ok.exf b hb).2, fun p hp => ?_⟩
    have ep : p = (s2.heap.objs.size, ob) := List.mem_singleton.mp (show p ∈ [(s2.heap.objs.size, ob)] from hp)
    rw [ep]
    exact fun z => absurd (Heap.lt_size e) (by rw [← z]; exact Nat.lt_irrefl _)
  have dnf : s2.heap.objs.size ∉ frs X.stack := fun z => by
    rcases List.mem_cons.mp (I.stkSub _ z) with z | z
    · exact absurd I.lt (by rw [← z]; exact Nat.lt_irrefl _)
    · exact I.nofs (Nat.le_refl _) z
  have I3D : ∀ {σ3 : St} {H3 : Hp} {s3 : Shared} {its : List Value} {k : Nat}, Inv (cxB X NB own scope P.objs.size fp s2 H2) [] σ3 H3 s3 → s3.heap.get? s2.heap.objs.size = some { cls := .type "list", data := .seq its.toArray k } → H3 s2.heap.objs.size = none →
      Inv (cxB X NB own scope P.objs.size fp s2 H2) [(s2.heap.objs.size, { cls := .type "list", data := .seq its.toArray k })] σ3 H3 s3 := fun I3 e n => I3.pins_of fun p hp => by
    have ep := List.mem_singleton.mp hp
    subst ep
    exact ⟨e, n, hDC, dnf, fun v z => by cases z⟩
  have ndf : s2.heap.objs.size ∉ fp := fun z => by
    obtain ⟨o, e⟩ := hfs _ z
    exact absurd (Heap.lt_size e) (Nat.lt_irrefl _)
  have nCD : ∀ x c, (cxB X NB own scope P.objs.size fp s2 H2).env.cells.lookup x = some c → c ≠ s2.heap.objs.size := fun x c e z => by
    obtain ⟨v, o, ho, _⟩ := I.cell x c (B.cells I.ok e).1
    rw [z] at ho
    exact absurd (Heap.lt_size ho) (Nat.lt_irrefl _)
  have loop : ∀ s₃ : Shared, s₃ = { s2 with heap := h₁, toks := tk4 } → codeAny (model X.prog X.w) X.A (.compLoop (.ListComp elt [⟨tg, iter, ifs, 0⟩] scope pos) 0 (.ref it) (.ref s2.heap.objs.size) (cxB X NB own scope P.objs.size fp s2 H2).env)
      (compPost (model X.prog X.w) X.A X.xe (some (assign (.Name y py) X.env)) (fun _ s' => SP X pins DD .next s') (.ref s2.heap.objs.size) P.objs.size) s₃ := by
    rintro s₃ rfl
    refine comp_loop (fun n s' => ∃ i σB H' ys its k, Inv (cxB X NB own scope P.objs.size fp s2 H2) [] σB H' s' ∧ tn i s'.heap ∧ (∀ b ∈ fp, H' b = none) ∧ s'.heap.get? s2.heap.objs.size = some { cls := .type "list", data := .seq (its : List Value).toArray k } ∧ Vals ys its ∧ H' s2.heap.objs.size = none ∧ W i n ys σB H') ?_ m0
      ⟨0, stB own cap σ, H2, [], [], 0, I4, st4, fun b hb => (f2 b hb).1, hD, .nil, I.hok.fresh (Nat.le_refl _), w0⟩
    rintro n s3 ⟨i, σ3, H3, ys, its, k, I3, st3, fr3, hD3, rv, hn3, w3⟩
    rcases turn i n ys σ3 H3 w3 with ⟨stop, hz, q⟩ | ⟨go, hz, step⟩
    · refine thn (T.done (cxB X NB own scope P.objs.size fp s2 H2) rfl rfl rfl hc i _ s3 σ3 H3 noE (I3D I3 hD3 hn3) (fun b hb => fOk hb (fr3 b hb)) st3 stop) fun r s4 ⟨hr, I4'⟩ => ?_
      subst hr
      have hD4 : s4.heap.get? s2.heap.objs.size = some { cls := .type "list", data := .seq (its : List Value).toArray k } := (I4'.pin (s2.heap.objs.size, _) (List.mem_append_right _ (List.mem_singleton.mpr rfl))).1
      have I5 : Inv (cxB X NB own scope P.objs.size fp s2 H2) [] σ3 H3 s4 := I4'.pins_of fun p hp => absurd (show p ∈ ([] : List (Addr × Obj)) from hp) (by simp)
      obtain ⟨mC, hnC, _⟩ := I5.loc
      have I6 : Inv X pins σ (upd H3 s2.heap.objs.size (.lst ys)) s4 := B.done (h'' := s4.heap) I f2 hCle (Nat.le_refl _) hDC I5 hn3 hD4 rv hz ⟨rfl, fun _ _ => rfl⟩
      obtain ⟨oC, es, ep, hoC, hdC, rC⟩ := hnC
      have hCn : (upd H3 s2.heap.objs.size (.lst ys)) P.objs.size = none := by rw [upd_ne hDC.symm]; exact I5.free
      have nL : P.objs.size ≠ X.env.locals := fun z => absurd I.lt (by rw [← z]; exact Nat.not_lt.mpr hCle)
      have I7 : Inv X (pins ++ [(P.objs.size, oC)]) σ (upd H3 s2.heap.objs.size (.lst ys)) s4 := I6.pins_of fun p hp => by
        rcases List.mem_append.mp hp with z | z
        · exact I6.pin p (List.mem_append_right _ z)
        · have ep := List.mem_singleton.mp z
          subst ep
          exact ⟨hoC, hCn, nL, I.nofs hCle, fun v z => by rw [hdC] at z; cases z⟩
      refine thn (pg_name (pos := py) hN hi0 hx hf (pins ++ [(P.objs.size, oC)]) s4 σ _ (.ref s2.heap.objs.size) (.ref s2.heap.objs.size) (fun σ' H' => DD.nx σ' H' ∧ H' = upd H3 s2.heap.objs.size (.lst ys)) I7 rfl ⟨q _ hn3, rfl⟩) fun _ s5 ⟨σ5, H5, I8, q5, e5⟩ => ?_
      subst e5
      have pC := (I8.pin (P.objs.size, oC) (List.mem_append_right _ (List.mem_append_right _ (List.mem_singleton.mpr rfl)))).1
      refine ⟨mC, ⟨oC, es, ep, pC, hdC, rC⟩, fun h'' sb => ⟨σ5, _, ?_, q5⟩⟩
      have I9 : Inv X pins σ5 (upd H3 s2.heap.objs.size (.lst ys)) s5 := I8.pins_of fun p hp => I8.pin p (List.mem_append_right _ (List.mem_append_left _ hp))
      refine I9.turned (t' := s5.toks) (it := P.objs.size) (fun b o hb e => (sb.2 b hb).trans e) hCn nL (.inr (Nat.le_trans I.sz hCle)) (fun x c e z => ?_) fun p hp z => ?_
      · obtain ⟨v, o, ho, _⟩ := I.cell x c e
        exact absurd (Heap.lt_size ho) (by rw [z]; exact Nat.not_lt.mpr hCle)
      · exact absurd (Heap.lt_size (I.pin p hp).1) (by rw [z]; exact Nat.not_lt.mpr hCle)
    · refine thn (T.item (cxB X NB own scope P.objs.size fp s2 H2) rfl rfl rfl hc i _ s3 σ3 H3 noE (I3D I3 hD3 hn3) (fun b hb => fOk hb (fr3 b hb)) st3 go) fun r s4 ⟨u, hr, h4⟩ => ?_
      subst hr
      refine thn h4 fun _ s5 ⟨x, H5, I5, r5, y5, st5, fr5⟩ => ?_
      have I5' := I5.pinned (fun b hb => fOk hb (fr5 b hb)) (T.obj _ _ st5)
      refine thn (hg _ fp s2 H2 _ s5 σ3 H5 x u _ I5' r5 (step x H5 y5)) fun _ s6 ⟨σ6, H6, I6, q6⟩ => ?_
      refine thn (ht _ fp s2 H2 _ s6 σ6 H6 _ I6 q6) fun b s7 ⟨H7, I7, q7⟩ => ?_
      have pinned : ∀ {σ8 : St} {H8 : Hp} {s8 : Shared}, Inv (cxB X NB own scope P.objs.size fp s2 H2) ([(s2.heap.objs.size, { cls := .type "list", data := .seq (its : List Value).toArray k })] ++ pinsAt fp s5.heap) σ8 H8 s8 →
          tn (i + 1) s8.heap ∧ (∀ b ∈ fp, H8 b = none) ∧ s8.heap.get? s2.heap.objs.size = some { cls := .type "list", data := .seq (its : List Value).toArray k } ∧ H8 s2.heap.objs.size = none := fun {σ8 H8 s8} I8 => by
        refine ⟨T.keep _ _ _ st5 fun b hb o e => (I8.pin (b, o) (List.mem_append_right _ (List.mem_append_right _ (mem_pinsAt hb e)))).1, fun b hb => ?_, ?_, ?_⟩
        · obtain ⟨o, e, d⟩ := T.obj _ _ st5 b hb
          exact (I8.pin (b, o) (List.mem_append_right _ (List.mem_append_right _ (mem_pinsAt hb e)))).2.1
        · exact (I8.pin (s2.heap.objs.size, _) (List.mem_append_right _ (List.mem_append_left _ (List.mem_singleton.mpr rfl)))).1
        · exact (I8.pin (s2.heap.objs.size, _) (List.mem_append_right _ (List.mem_append_left _ (List.mem_singleton.mpr rfl)))).2.1
      have nopin : ∀ {pp : List (Addr × Obj)} {σ8 : St} {H8 : Hp} {s8 : Shared}, Inv (cxB X NB own scope P.objs.size fp s2 H2) pp σ8 H8 s8 → Inv (cxB X NB own scope P.objs.size fp s2 H2) [] σ8 H8 s8 := fun I8 => I8.pins_of fun p hp => absurd (show p ∈ ([] : List (Addr × Obj)) from hp) (by simp)
      cases b with
      | false =>
        rw [if_neg Bool.false_ne_true] at q7 ⊢
        obtain ⟨m', hm, w7⟩ := q7
        obtain ⟨p1, p2, p3, p4⟩ := pinned I7
        exact ⟨m', hm, i + 1, σ6, H7, ys, its, k, nopin I7, p1, p2, p3, rv, p4, w7⟩
      | true =>
        rw [if_pos rfl] at q7 ⊢
        refine thn (he _ fp s2 H2 _ s7 σ6 H7 _ I7 q7) fun yv s8 ⟨y, H8, I8, r8, m', hm, w8⟩ => ?_
        obtain ⟨p1, p2, p3, p4⟩ := pinned I8
        refine call_meets F.slot_list_append ⟨_, p3, rfl⟩ F.entry_list_append (F.args_list_append_2 _ _) (PySem.list_append s2.heap.objs.size its.toArray k yv (by rw [List.size_toArray, ← rv.length]; omega)) ⟨p3, ?_⟩
        have q := PySem.IsL.update p3 fun a => a.push yv
        have ea : its.toArray.push yv = (its ++ [yv]).toArray := by simp
        rw [ea] at q
        have I9 : Inv (cxB X NB own scope P.objs.size fp s2 H2) [] σ6 H8 { s8 with heap := s8.heap.update s2.heap.objs.size (Obj.mapSeq fun a => a.push yv), toks := s8.toks } :=
          (nopin I8).turned (it := s2.heap.objs.size) (fun b o hb e => (Heap.get?_update_other s8.heap _ (Ne.symm hb)).trans e) p4 hDC (.inr (Nat.le_refl _)) (fun x c e => nCD x c e) fun p hp => absurd (show p ∈ ([] : List (Addr × Obj)) from hp) (by simp)
        refine ⟨m', hm, i + 1, σ6, H8, ys ++ [y], its ++ [yv], _, I9, ?_, p2, q, rv.append (.cons r8 .nil), p4, w8⟩
        refine T.keep _ _ _ p1 fun b hb o e => (Heap.get?_update_other s8.heap _ ?_).trans e
        intro z
        rw [z] at ndf
        exact ndf hb
  exact codeAny_compStart_list (loop _ rfl) (T.self X.A 0 _ _ _ st4 (loop _ rfl))

end L2
namespace L2
open PySem PySem.Spec PyProof.Rows Wd
end L2
set_option Elab.async false
set_option linter.all false
set_option maxRecDepth 100000
namespace L2
open PySem PySem.Spec PyProof.Rows Wd
section
variable {X : Cx}
/-! ### list.insert, a text turned about, repr of an int -/
def rInsert : V → List V → Hp → VK → Prop := fun x vs H Q => ∃ l xs i y, x = .ref l ∧ vs = [.int i, y] ∧ H l = some (.lst xs) ∧ 0 ≤ i ∧ i ≤ xs.length ∧ xs.length < sizeLine ∧ Q .non (upd H l (.lst (xs.take i.toNat ++ y :: xs.drop i.toNat)))
theorem mt_insert : MtM X "list.insert" rInsert := by
  intro pins s σ H x vs v us Q I rx rv h
  obtain ⟨l, xs, i, y, rfl, rfl, hH, h0, h1, hz, q⟩ := h
  cases rx
  obtain ⟨u1, u2, rfl, ⟨t1, rfl⟩, r2⟩ := vals2 rv
  obtain ⟨z, its, n, r, hl, e⟩ := I.lstM hH
  have hn := line63
  have hfit : Builtin.List.listFitsIndex i = true := by
    unfold Builtin.List.listFitsIndex
    rw [Bool.and_eq_true, decide_eq_true_eq, decide_eq_true_eq]
    constructor <;> omega
  refine call_meets PySem.F.slot_list_insert ⟨_, e, rfl⟩ PySem.F.entry_list_insert (PySem.F.args_list_insert_3 _ _ _) (PySem.AutoSeq1.list_insert_list_int_val_1 l its.toArray n i t1 u2 (by simp [hfit]) (by rw [List.size_toArray]; omega)) ⟨e, ?_⟩
  refine ⟨.non, _, I.lset (its' := its.take i.toNat ++ u2 :: its.drop i.toNat) hH e ?_ ((r.take _).append (.cons r2 (r.drop _))) ?_, rfl, q⟩
  · have hm : min i.toNat its.length = i.toNat := by omega
    simp only [List.size_toArray, if_neg (show ¬ i < 0 by omega), hm]
    apply Array.toList_inj.mp
    simp
    exact List.take_of_length_le (by rw [List.length_drop]; exact Nat.le_refl _)
  · rw [List.length_append, List.length_cons, List.length_take, List.length_drop]
    omega
def revS (z : Str) : Str := Txt.sliceBy z none none (-1, 0)
def tRevS (te ts : TE) : TE := fun σ H Q => te σ H fun x H1 => ts σ H1 fun k H2 => ∃ z, x = .str z ∧ k = .int (-1) ∧ z.length ≤ sizeLine ∧ Q (.str (revS z)) H2
theorem pe_revS {e st : Expr} {te ts : TE} {pos p2 : Pos} (he : PE X e te) (hs : PE X st ts) : PE X (.Subscript e (.Slice none none (some st) p2) pos) (tRevS te ts) := by
  intro pins s σ H Q I h
  refine Subscript_ (thn (he pins s σ H _ I h) fun v s1 ⟨x, H1, I1, r1, q1⟩ => ?_)
  refine wpAny_Slice ?_
  rw [evalPart_none]
  refine wpAny_pure ?_
  refine wpAny_pure ?_
  rw [evalPart_some]
  refine thn (hs pins s1 σ H1 _ I1 q1) fun vs s3 ⟨k, H3, I3, r3, z, ez, ek, hz, q3⟩ => ?_
  subst ez ek
  obtain ⟨t, rfl⟩ := r1
  obtain ⟨tk, rfl⟩ := r3
  have I4 : Inv X pins σ H3 { s3 with heap := s3.heap.push { cls := .type "slice", data := .fields #[.none, .none, .int (-1) tk] } } := I3.kept (t' := s3.toks) fun b ob q => Heap.get?_push_of_some _ q
  show wpAny (model X.prog X.w) X.A (subscriptTail e (.Slice none none (some st) p2) (.str z t) (.ref s3.heap.objs.size)) (EP X pins σ Q) X.xe { s3 with heap := s3.heap.push { cls := .type "slice", data := .fields #[.none, .none, .int (-1) tk] } }
  refine tail_any (ops := [.ref s3.heap.objs.size, .str z t]) (typeIs_str _ _ _) F.slot_str_getitem.lookup ?_ (by with_unfolding_all rfl)
  exact wpAny_getItem_str_slice (l := none) (u := none) (st := some (-1, tk)) ⟨_, Heap.get?_push_size _ rfl, rfl, rfl⟩ rfl (post_val_or_str ⟨Nat.le_trans (Txt.sliceBy_le z none none (-1, tk) (by show (-1 : Int) ≠ 0; decide)) hz, fun t' k => ⟨.str _, H3, I4.tok _, ⟨_, rfl⟩, q3⟩⟩)
theorem pt_dnot {i o : Expr} {ty td : TE} {pos : Pos} (hu : X.A.units + 1 < cLine) (hi : PE X i ty) (ho : PE X o td) (h1 : behindInMarks .NotIn o = false) : PT X (.Compare i [.NotIn] [o] pos) (tB (tDNotIn ty td)) := pt_cmp (pc_dnotin hu hi ho) h1
theorem revS_toS (u : List L) : revS (toS u) = toS u.reverse := by
  have h : (revS (toS u)).cps.toList = (toS u.reverse).cps.toList := by
    unfold revS
    rw [step_rev_list, toS_cps, toS_length]
    apply List.ext_getElem?
    intro i
    rw [List.getElem?_map]
    by_cases hi : i < u.length
    · rw [List.getElem?_range hi, List.getElem?_map, List.getElem?_reverse hi]
      have e : (toS u).cps.getD (u.length - 1 - i) 0 = cp u[u.length - 1 - i] := by
        simp [toS, Array.getD, show u.length - 1 - i < u.length by omega]
      rw [List.getElem?_eq_getElem (show u.length - 1 - i < u.length by omega)]
      exact congrArg some e
    · rw [List.getElem?_eq_none (by simpa using hi), List.getElem?_eq_none (by simp; omega)]
      rfl
  cases hr : revS (toS u) with
  | mk c => 
    rw [hr] at h
    have : c = (toS u.reverse).cps := Array.toList_inj.mp h
    rw [this]
end
end L2
set_option Elab.async false
set_option linter.all false
set_option maxRecDepth 100000
set_option maxHeartbeats 0
/-! ### the mathematics of holes -/
namespace Wd
/-- a surface as letters -/
structure Srf (u : List L) : Prop where
  ne : u ≠ []
  nd : u.Nodup
  iv : ∀ x ∈ u, inv x ∈ u
  le : u.length ≤ 12
theorem Srf.pos {u : List L} (S : Srf u) : 0 < u.length := List.length_pos_iff.mpr S.ne
def letH (u : List L) (g : Nat) : L := u.getD ((g + 1) % u.length) 0
def stepH (u : List L) (g : Nat) : Nat := u.idxOf (inv (letH u g))
theorem letH_get {u : List L} (S : Srf u) (g : Nat) : u[(g + 1) % u.length]? = some (letH u g) := by
  have h := Nat.mod_lt (g + 1) S.pos
  unfold letH
  rw [List.getD_eq_getElem?_getD, List.getElem?_eq_getElem h]
  rfl
theorem letH_mem {u : List L} (S : Srf u) (g : Nat) : letH u g ∈ u := List.mem_of_getElem? (letH_get S g)
theorem stepH_lt {u : List L} (S : Srf u) (g : Nat) : stepH u g < u.length := List.idxOf_lt_length_of_mem (S.iv _ (letH_mem S g))
/-- gaps that were seen -/
structure Sn (u : List L) (S : List Nat) : Prop where
  nd : S.Nodup
  lt : ∀ g ∈ S, g < u.length
theorem sub_le : ∀ (n : Nat) (S : List Nat), S.Nodup → (∀ g ∈ S, g < n) → S.length ≤ n
  | 0, S, _, h => by
    cases S with
    | nil => exact Nat.le_refl _
    | cons a r => exact absurd (h a List.mem_cons_self) (Nat.not_lt_zero _)
  | n + 1, S, nd, h => by
    by_cases hn : n ∈ S
    · have q := sub_le n (S.erase n) (nd.erase n) fun g hg => by
        have := (List.Nodup.mem_erase_iff nd).mp hg
        have := h g this.2
        omega
      rw [List.length_erase_of_mem hn] at q
      omega
    · have q := sub_le n S nd fun g hg => by
        have h1 := h g hg
        have h2 : g ≠ n := fun e => hn (e ▸ hg)
        omega
      omega
theorem Sn.le {u : List L} {S : List Nat} (h : Sn u S) : S.length ≤ u.length := sub_le _ _ h.nd h.lt
theorem Sn.snoc {u : List L} {S : List Nat} (h : Sn u S) {g : Nat} (hg : g < u.length) (hn : g ∉ S) : Sn u (S ++ [g]) := by
  refine ⟨?_, fun x hx => ?_⟩
  · rw [List.nodup_append]
    refine ⟨h.nd, by simp, fun a ha b hb e => ?_⟩
    rw [List.mem_singleton] at hb
    subst hb
    exact hn (e ▸ ha)
  · rcases List.mem_append.mp hx with h1 | h1
    · exact h.lt x h1
    · rw [List.mem_singleton] at h1
      exact h1 ▸ hg
theorem Sn.nil (u : List L) : Sn u [] := ⟨List.nodup_nil, fun _ h => absurd h (by simp)⟩
def walkH (u : List L) : Nat → Nat → List Nat → List L → List Nat × List L
  | 0, _, S, w => (S, w)
  | n + 1, g, S, w => if g ∈ S then (S, w) else walkH u n (stepH u g) (S ++ [g]) (w ++ [letH u g])
/-- the walk from a gap -/
def wk (u : List L) (g : Nat) (S : List Nat) (w : List L) : List Nat × List L := walkH u (u.length + 1 - S.length) g S w
theorem wk_in {u : List L} {g : Nat} {S : List Nat} {w : List L} (h : g ∈ S) : wk u g S w = (S, w) := by
  unfold wk
  cases u.length + 1 - S.length with
  | zero => rfl
  | succ n => unfold walkH; rw [if_pos h]
theorem wk_out {u : List L} {g : Nat} {S : List Nat} {w : List L} (hs : Sn u S) (hg : g < u.length) (h : g ∉ S) : wk u g S w = wk u (stepH u g) (S ++ [g]) (w ++ [letH u g]) := by
  have h1 := (hs.snoc hg h).le
  rw [List.length_append, List.length_singleton] at h1
  unfold wk
  rw [List.length_append, List.length_singleton]
  have e : u.length + 1 - S.length = (u.length + 1 - (S.length + 1)) + 1 := by omega
  rw [e]
  show (if g ∈ S then (S, w) else _) = _
  rw [if_neg h]
/-- the holes that were found before a gap, and the gaps that were seen -/
def holS (u : List L) : Nat → List Nat × List (List L)
  | 0 => ([], [])
  | i + 1 => if i ∈ (holS u i).1 then holS u i else ((wk u i (holS u i).1 []).1, (holS u i).2 ++ [(wk u i (holS u i).1 []).2])
theorem hol_len (u : List L) : ∀ i, (holS u i).2.length ≤ i
  | 0 => Nat.le_refl _
  | i + 1 => by
    have := hol_len u i
    unfold holS
    split
    · omega
    · show ((holS u i).2 ++ [_]).length ≤ i + 1
      rw [List.length_append, List.length_singleton]
      omega
theorem hol_in {u : List L} {i : Nat} (h : i ∈ (holS u i).1) : holS u (i + 1) = holS u i := by
  show (if _ then _ else _) = _
  rw [if_pos h]
theorem hol_out {u : List L} {i : Nat} (h : i ∉ (holS u i).1) : holS u (i + 1) = ((wk u i (holS u i).1 []).1, (holS u i).2 ++ [(wk u i (holS u i).1 []).2]) := by
  show (if _ then _ else _) = _
  rw [if_neg h]
/-- the pairs of the first k letters -/
def fam (k : Nat) : List L := (List.range k).flatMap fun j => if h : j < 6 then [⟨j, by omega⟩, ⟨j + 6, by omega⟩] else []
theorem fam_ok : ∀ k : Fin 7, (fam k.val).Nodup ∧ (∀ x ∈ fam k.val, inv x ∈ fam k.val) ∧ (fam k.val).length = 2 * k.val := by decide
theorem fam_succ {k : Nat} (h : k < 6) : fam (k + 1) = fam k ++ [⟨k, by omega⟩, ⟨k + 6, by omega⟩] := by
  unfold fam
  rw [List.range_succ, List.flatMap_append]
  simp [h]
theorem srf_of {k : Nat} {u : List L} (h1 : 1 ≤ k) (h6 : k ≤ 6) (p : u.Perm (fam k)) : Srf u := by
  obtain ⟨a, b, c⟩ := fam_ok ⟨k, by omega⟩
  have hl := p.length_eq
  have c : (fam k).length = 2 * k := c
  refine ⟨fun e => ?_, (p.nodup_iff).mpr a, fun x hx => p.mem_iff.mpr (b x (p.mem_iff.mp hx)), by omega⟩
  subst e
  rw [c] at hl
  simp at hl
  omega
theorem perm_ins {u v : List L} (x : L) (i : Nat) (p : u.Perm v) : (u.take i ++ x :: u.drop i).Perm (v ++ [x]) := by
  refine List.perm_middle.trans ?_
  rw [List.take_append_drop]
  exact ((List.Perm.cons x p).trans (List.perm_append_singleton x v).symm)
def hol (u : List L) : List (List L) := (holS u u.length).2
end Wd
namespace Kx
open PySem PySem.Spec PyProof.Rows L2 Wd
theorem at_one (u : List L) (x : L) (i : Nat) : StrLaws.At (toS u) (toS [x]) (toS u).length i ↔ u[i]? = some x := by
  unfold StrLaws.At
  rw [toS_length, toS_length, StrLaws.subAt_eq, toS_length, toS_cps, toS_cps, beq_iff_eq, ← List.map_drop, ← List.map_take]
  simp only [List.length_singleton]
  constructor
  · rintro ⟨h1, h2⟩
    have h2 := map_cp_inj h2
    have : (u.drop i).take 1 = [u[i]] := by rw [List.drop_eq_getElem_cons (by omega)]; rfl
    rw [this] at h2
    rw [List.getElem?_eq_getElem (by omega)]
    exact congrArg some (List.cons.inj h2).1
  · intro h
    obtain ⟨hl, e⟩ := List.getElem?_eq_some_iff.mp h
    refine ⟨by omega, ?_⟩
    rw [List.drop_eq_getElem_cons hl, e]
    rfl
theorem idx_at {u : List L} {x : L} (h : x ∈ u) : ∃ rest, Builtin.Str.occurrences (toS u) (toS [x]) 0 (toS u).length 1 = u.idxOf x :: rest := by
  have hlt := List.idxOf_lt_length_of_mem h
  have hx : u[u.idxOf x]? = some x := by rw [List.getElem?_eq_getElem hlt]; exact congrArg some (List.getElem_idxOf hlt)
  rcases StrLaws.occ_head (toS u) (toS [x]) 1 (Nat.le_refl 1) with ⟨h0, hn⟩ | ⟨i, r, h0, hi, hn⟩
  · exact absurd ((at_one u x _).mpr hx) (hn _)
  · refine ⟨r, ?_⟩
    rw [h0]
    have hi := (at_one u x i).mp hi
    have : i = u.idxOf x := by
      rcases Nat.lt_trichotomy i (u.idxOf x) with h1 | h1 | h1
      · have q := List.not_of_lt_findIdx (p := (· == x)) h1
        obtain ⟨hl, e⟩ := List.getElem?_eq_some_iff.mp hi
        exact absurd (beq_iff_eq.mpr e) (by simpa using q)
      · exact h1
      · exact absurd ((at_one u x _).mpr hx) (hn _ h1)
    rw [this]
theorem in_big (x : L) : (!(Builtin.Str.occurrences ("ABCDEF" : Str) (toS [x]) 0 ("ABCDEF" : Str).length 1).isEmpty) = decide (¬ x.val < 6) := by
  have q : ∀ x : L, decide (cp x ∈ ("ABCDEF" : Str).cps.toList) = decide (¬ x.val < 6) := by decide +kernel
  have h := StrLaws.found_one ("ABCDEF" : Str) (cp x)
  rw [q] at h
  exact h
/-- a tape stands at d, its cells at c -/
structure Tp (H : Hp) (d c : Addr) : Prop where
  ex : ∃ (i l t : Int) (ns : List Int), H d = some (.lst [.ref c, .int i, .int l, .int t]) ∧ H c = some (.lst (ns.map V.int)) ∧ c ≠ d ∧ ns.length ≤ 63
theorem Tp.same {H H' : Hp} {d c : Addr} (F : Tp H d c) (s : Same H H') : Tp H' d c := by
  obtain ⟨i, l, t, ns, h1, h2, h3, h4⟩ := F.ex
  exact ⟨i, l, t, ns, s _ _ h1, s _ _ h2, h3, h4⟩
theorem Tp.new {H : Hp} {d c a : Addr} {o : HO} (F : Tp H d c) (h : H a = none) : Tp (upd H a o) d c := F.same (Same.new h)
theorem Tp.ne {H : Hp} {d c a : Addr} (F : Tp H d c) (h : H a = none) : a ≠ d := by
  obtain ⟨i, l, t, ns, h1, h2, h3, h4⟩ := F.ex
  exact (ne_of_none h1 h).symm
theorem Tp.nec {H : Hp} {d c a : Addr} (F : Tp H d c) (h : H a = none) : a ≠ c := by
  obtain ⟨i, l, t, ns, h1, h2, h3, h4⟩ := F.ex
  exact (ne_of_none h2 h).symm
theorem Tp.but {H H' : Hp} {d c a : Addr} (F : Tp H d c) (h1 : a ≠ d) (h2 : a ≠ c) (s : SameB a H H') : Tp H' d c := by
  obtain ⟨i, l, t, ns, g1, g2, g3, g4⟩ := F.ex
  exact ⟨i, l, t, ns, s _ _ h1.symm g1, s _ _ h2.symm g2, g3, g4⟩
theorem none_of {H H' : Hp} {a : Addr} (s : Same H H') (h : H' a = none) : H a = none := by
  cases e : H a with
  | none => rfl
  | some o => exact absurd (s _ _ e) (by rw [h]; intro z; cases z)
def spTDraw : Sp := fun vs H Q _ => ∃ (d c : Addr) (m : Int), vs = [.ref d, .int m] ∧ Tp H d c ∧ 0 < m ∧ m < 1000000 ∧ ∀ (r : Int) (H' : Hp), 0 ≤ r → r < m → Tp H' d c → SameB d H H' → Q (.int r) H'
def spTape (K : PySem.W.Frag) : Sp := fun vs H Q _ => ∃ (a : Addr) (ns : List Int), vs = [.ref a] ∧ SqL K H a (ns.map V.int) ∧ ns.length ≤ 63 ∧ ∀ (d c : Addr) (H' : Hp), H d = none → H c = none → Tp H' d c → Same H H' → Q (.ref d) H'
/-- a surface by draws -/
def spRow : Sp := fun vs H Q _ => ∃ (d c : Addr) (m : Int), vs = [.ref d, .int m] ∧ Tp H d c ∧ 1 ≤ m ∧ m ≤ 6 ∧ ∀ (u : List L) (H' : Hp), Srf u → Tp H' d c → SameB d H H' → Q (tx u) H'
/-- gaps that were seen, as a dict's keys -/
def sk (S : List Nat) : List (Key × V) := S.map fun g : Nat => (Sum.inl (g : Int), V.bl true)
theorem sk_get (S : List Nat) (g : Nat) : (valV (sk S) (Sum.inl (g : Int))).isSome = decide (g ∈ S) := by
  rw [← valV_any]
  unfold sk
  rw [List.any_map, Bool.eq_iff_iff, List.any_eq_true, decide_eq_true_iff]
  constructor
  · rintro ⟨x, hx, e⟩
    have e : (Sum.inl (x : Int) : Key) = Sum.inl (g : Int) := of_decide_eq_true e
    have e := Sum.inl.inj e
    have : x = g := by omega
    exact this ▸ hx
  · intro h
    exact ⟨g, h, decide_eq_true rfl⟩
theorem sk_put {S : List Nat} {g : Nat} (h : g ∉ S) : putK (sk S) (Sum.inl (g : Int)) (V.bl true) = sk (S ++ [g]) := by
  have e := sk_get S g
  rw [decide_eq_false h] at e
  rw [putK_new _ (by cases h : valV (sk S) (Sum.inl (g : Int)) with | none => rfl | some v => rw [h] at e; cases e)]
  unfold sk
  rw [List.map_append]
  rfl
theorem sk_len (S : List Nat) : (sk S).length = S.length := by unfold sk; rw [List.length_map]
def spHole : Sp := fun vs H Q _ => ∃ (u : List L) (g : Nat) (a : Addr) (S : List Nat), vs = [tx u, .int g, .ref a] ∧ Srf u ∧ g < u.length ∧ Sn u S ∧ H a = some (.dK (sk S)) ∧
  ∀ H', H' a = some (.dK (sk (wk u g S []).1)) → Sn u (wk u g S []).1 → SameB a H H' → Q (tx (wk u g S []).2) H'
def spHoles : Sp := fun vs H Q _ => ∃ u, vs = [tx u] ∧ Srf u ∧ ∀ (l : Addr) (H' : Hp), H l = none → H' l = some (.lst ((hol u).map tx)) → Same H H' → Q (.ref l) H'
def spHandles : Sp := fun vs H Q _ => ∃ u, vs = [tx u] ∧ Srf u ∧ ∀ (H' : Hp), Same H H' → Q (.int ((1 + (u.length : Int) / 2 - ((hol u).length : Int)) / 2)) H'
theorem hol_txs (u : List L) (i : Nat) : ((holS u i).2.map tx).length ≤ i := by
  rw [List.length_map]
  exact hol_len u i
/-- gaps as a list of ints -/
def gs (S : List Nat) : List V := S.map fun g : Nat => V.int (g : Int)
/-- what leads from a gap -/
structure Leads (H : Hp) (a : Addr) (u : List L) (i : Nat) : Prop where
  ex : ∃ kvs : List (Key × V), H a = some (.dK kvs) ∧ kvs.length ≤ i ∧ ∀ g : Nat, g < u.length → (g + 1) % u.length < i → ∃ p : Addr, valV kvs (Sum.inl (g : Int)) = some (.ref p) ∧ H p = some (.tup [tx [letH u g], .int (stepH u g : Nat)])
theorem bg6 : ∀ j : Fin 6, ([6, 7, 8, 9, 10, 11] : List L)[j.val]? = some ⟨j.val + 6, by omega⟩ := by decide
theorem sm_at {i : Nat} (h : i < 6) : atI ("abcdef" : Str).cps.toList (i : Int) = some (cp ⟨i, by omega⟩) := by
  rw [← small]
  exact atI_toS (k := i) rfl (sm6 ⟨i, h⟩)
theorem bg_at {i : Nat} (h : i < 6) : atI ("ABCDEF" : Str).cps.toList (i : Int) = some (cp ⟨i + 6, by omega⟩) := by
  rw [← big]
  exact atI_toS (k := i) rfl (bg6 ⟨i, h⟩)
theorem ones_ins (W : List L) (x : L) (n : Nat) : (ones W).take n ++ tx [x] :: (ones W).drop n = ones (W.take n ++ x :: W.drop n) := by
  unfold ones
  simp
end Kx
set_option Elab.async false
set_option linter.all false
set_option maxRecDepth 100000
set_option maxHeartbeats 0
/-! ### cycles as closed lists -/
namespace Wd
section
variable {α : Type}
/-- y stands right behind x -/
def Adj : List α → α → α → Prop
  | a :: b :: t, x, y => (x = a ∧ y = b) ∨ Adj (b :: t) x y
  | _, _, _ => False
theorem adj_two {a b : α} {t : List α} {x y : α} : Adj (a :: b :: t) x y ↔ (x = a ∧ y = b) ∨ Adj (b :: t) x y := Iff.rfl
theorem adj_one {a x y : α} : Adj [a] x y ↔ False := Iff.rfl
theorem adj_mid : ∀ (l : List α) (c : α) (m : List α) (x y : α), Adj (l ++ c :: m) x y ↔ Adj (l ++ [c]) x y ∨ Adj (c :: m) x y
  | [], c, m, x, y => by simp [adj_one]
  | [a], c, m, x, y => by
    show Adj (a :: c :: m) x y ↔ Adj [a, c] x y ∨ _
    rw [adj_two, adj_two, adj_one]
    simp
  | a :: b :: l, c, m, x, y => by
    have ih := adj_mid (b :: l) c m x y
    show Adj (a :: b :: (l ++ c :: m)) x y ↔ Adj (a :: b :: (l ++ [c])) x y ∨ _
    rw [adj_two, adj_two]
    have ih : Adj (b :: (l ++ c :: m)) x y ↔ Adj (b :: (l ++ [c])) x y ∨ Adj (c :: m) x y := ih
    rw [ih, or_assoc]
theorem adj_mem : ∀ {l : List α} {x y : α}, Adj l x y → x ∈ l ∧ y ∈ l
  | [], _, _, h => h.elim
  | [a], _, _, h => h.elim
  | a :: b :: t, x, y, h => by
    rcases h with ⟨rfl, rfl⟩ | h
    · simp
    · have := adj_mem h
      exact ⟨List.mem_cons_of_mem _ this.1, List.mem_cons_of_mem _ this.2⟩
theorem adj_split : ∀ {l : List α} {x y : α}, Adj l x y → ∃ s t, l = s ++ x :: y :: t
  | [], _, _, h => h.elim
  | [a], _, _, h => h.elim
  | a :: b :: t, x, y, h => by
    rcases h with ⟨rfl, rfl⟩ | h
    · exact ⟨[], t, rfl⟩
    · obtain ⟨s, t', e⟩ := adj_split h
      exact ⟨a :: s, t', by rw [e]; rfl⟩
theorem adj_at {s t : List α} {x y : α} : Adj (s ++ x :: y :: t) x y := by
  rw [adj_mid]
  exact .inr (.inl ⟨rfl, rfl⟩)
theorem adj_map {β : Type} (f : α → β) : ∀ {l : List α} {x y : β}, Adj (l.map f) x y → ∃ a b, Adj l a b ∧ x = f a ∧ y = f b
  | [], _, _, h => h.elim
  | [a], _, _, h => h.elim
  | a :: b :: t, x, y, h => by
    rcases h with ⟨rfl, rfl⟩ | h
    · exact ⟨a, b, .inl ⟨rfl, rfl⟩, rfl, rfl⟩
    · obtain ⟨a', b', h', e1, e2⟩ := adj_map f (l := b :: t) h
      exact ⟨a', b', .inr h', e1, e2⟩
theorem map_adj {β : Type} (f : α → β) {l : List α} {a b : α} (h : Adj l a b) : Adj (l.map f) (f a) (f b) := by
  obtain ⟨s, t, rfl⟩ := adj_split h
  rw [List.map_append]
  exact adj_at
theorem adj_rev {l : List α} {a b : α} (h : Adj l a b) : Adj l.reverse b a := by
  obtain ⟨s, t, rfl⟩ := adj_split h
  have : (s ++ a :: b :: t).reverse = t.reverse ++ b :: a :: s.reverse := by simp
  rw [this]
  exact adj_at
/-- y comes right behind x in the round word -/
def Nx : List α → α → α → Prop
  | [], _, _ => False
  | h :: t, x, y => Adj (h :: t ++ [h]) x y
theorem nx_rot : ∀ (A B : List α) (x y : α), Nx (A ++ B) x y ↔ Nx (B ++ A) x y
  | [], B, x, y => by simp
  | a :: A, [], x, y => by simp
  | a :: A, b :: B, x, y => by
    show Adj (a :: (A ++ b :: B) ++ [a]) x y ↔ Adj (b :: (B ++ a :: A) ++ [b]) x y
    have e1 : a :: (A ++ b :: B) ++ [a] = (a :: A) ++ b :: (B ++ [a]) := by simp
    have e2 : b :: (B ++ a :: A) ++ [b] = (b :: B) ++ a :: (A ++ [b]) := by simp
    rw [e1, e2, adj_mid (a :: A) b, adj_mid (b :: B) a, or_comm]
    rfl
theorem nx_mem {w : List α} {x y : α} (h : Nx w x y) : x ∈ w ∧ y ∈ w := by
  cases w with
  | nil => exact h.elim
  | cons a t =>
    have := adj_mem h
    simp at this ⊢
    exact ⟨by rcases this.1 with h | h | h <;> simp [h], by rcases this.2 with h | h | h <;> simp [h]⟩
theorem nx_map {β : Type} (f : α → β) {w : List α} {x y : β} (h : Nx (w.map f) x y) : ∃ a b, Nx w a b ∧ x = f a ∧ y = f b := by
  cases w with
  | nil => exact h.elim
  | cons a t =>
    have h : Adj ((a :: t ++ [a]).map f) x y := by
      have h : Adj (f a :: t.map f ++ [f a]) x y := h
      simpa using h
    exact adj_map f h
theorem map_nx {β : Type} (f : α → β) {w : List α} {a b : α} (h : Nx w a b) : Nx (w.map f) (f a) (f b) := by
  cases w with
  | nil => exact h.elim
  | cons c t =>
    have := map_adj f (show Adj (c :: t ++ [c]) a b from h)
    show Adj (f c :: t.map f ++ [f c]) (f a) (f b)
    simpa using this
/-- the round word begun anywhere -/
theorem mem_rot {w : List α} {x : α} (h : x ∈ w) : ∃ A B, w = A ++ x :: B := by
  obtain ⟨A, B, e⟩ := List.append_of_mem h
  exact ⟨A, B, e⟩
/-- what comes behind the first -/
theorem nx_head {x y : α} {t : List α} (nd : (x :: t).Nodup) : Nx (x :: t) x y ↔ (t ++ [x]).head? = some y := by
  cases t with
  | nil =>
    show Adj [x, x] x y ↔ _
    rw [adj_two, adj_one]
    simp [eq_comm]
  | cons b r =>
    show Adj (x :: b :: (r ++ [x])) x y ↔ _
    rw [adj_two]
    constructor
    · rintro (⟨_, e⟩ | h)
      · simp [e]
      · exfalso
        have hx : x ∉ b :: r := (List.nodup_cons.mp nd).1
        obtain ⟨s, t, e⟩ := adj_split h
        have e : (b :: r) ++ [x] = s ++ x :: y :: t := e
        have h2 : (s ++ x :: y :: t) = (s ++ [x]) ++ (y :: t) := by simp
        rcases List.append_eq_append_iff.mp e with ⟨a', e1, e2⟩ | ⟨c', e1, e2⟩
        · have := congrArg List.length e2
          simp only [List.length_append, List.length_cons, List.length_nil] at this
          omega
        · cases c' with
          | nil => simp at e2
          | cons c c' =>
            have : c = x := by
              have := (List.cons.inj e2).1
              exact this.symm
            subst this
            exact hx (by rw [e1]; simp)
    · intro h
      simp at h
      exact .inl ⟨rfl, h.symm⟩
theorem nx_ex {w : List α} {x : α} (h : x ∈ w) : ∃ y, Nx w x y := by
  obtain ⟨A, B, rfl⟩ := mem_rot h
  cases e : B ++ A with
  | nil => exact ⟨x, (nx_rot _ _ _ _).mpr (by show Adj (x :: (B ++ A) ++ [x]) x x; rw [e]; exact .inl ⟨rfl, rfl⟩)⟩
  | cons c r => exact ⟨c, (nx_rot _ _ _ _).mpr (by show Adj (x :: (B ++ A) ++ [x]) x c; rw [e]; exact .inl ⟨rfl, rfl⟩)⟩
theorem nd_rot {A B : List α} (nd : (A ++ B).Nodup) : (B ++ A).Nodup := (List.perm_append_comm.nodup_iff).mp nd
theorem nx_fun {w : List α} {x y z : α} (nd : w.Nodup) (h1 : Nx w x y) (h2 : Nx w x z) : y = z := by
  obtain ⟨A, B, rfl⟩ := mem_rot (nx_mem h1).1
  have h1 := (nx_rot _ _ _ _).mp h1
  have h2 := (nx_rot _ _ _ _).mp h2
  have nd : (x :: (B ++ A)).Nodup := nd_rot nd
  have h1 := (nx_head nd).mp h1
  have h2 := (nx_head nd).mp h2
  exact Option.some.inj (h1.symm.trans h2)
theorem nx_rev {w : List α} {x y : α} (h : Nx w x y) : Nx w.reverse y x := by
  cases w with
  | nil => exact h.elim
  | cons a t =>
    have h := adj_rev (show Adj (a :: t ++ [a]) x y from h)
    have e : (a :: t ++ [a]).reverse = a :: t.reverse ++ [a] := by simp
    rw [e] at h
    have e2 : (a :: t).reverse = t.reverse ++ [a] := by simp
    rw [e2, nx_rot]
    exact h
theorem rev_nx {w : List α} {x y : α} (h : Nx w.reverse y x) : Nx w x y := by
  have := nx_rev h
  rwa [List.reverse_reverse] at this
end
end Wd
set_option Elab.async false
set_option linter.all false
set_option maxRecDepth 100000
set_option maxHeartbeats 0
namespace Wd
section
variable {α : Type}
/-- a round word that R leads round -/
structure Cy (R : α → α → Prop) (w : List α) : Prop where
  ne : w ≠ []
  nd : w.Nodup
  st : ∀ x y, Nx w x y → R x y
def Fnl (R : α → α → Prop) : Prop := ∀ x y z, R x y → R x z → y = z
theorem chain_eq {R : α → α → Prop} (hR : Fnl R) : ∀ (t t' : List α) (x z : α), (∀ a b, Adj (x :: t ++ [z]) a b → R a b) → (∀ a b, Adj (x :: t' ++ [z]) a b → R a b) → z ∉ t → z ∉ t' → t = t'
  | [], [], _, _, _, _, _, _ => rfl
  | [], b :: r, x, z, h1, h2, _, n2 => by
    have e1 := h1 x z (.inl ⟨rfl, rfl⟩)
    have e2 := h2 x b (.inl ⟨rfl, rfl⟩)
    exact absurd (hR _ _ _ e1 e2) (fun e => n2 (by rw [e]; simp))
  | a :: r, [], x, z, h1, h2, n1, _ => by
    have e1 := h1 x a (.inl ⟨rfl, rfl⟩)
    have e2 := h2 x z (.inl ⟨rfl, rfl⟩)
    exact absurd (hR _ _ _ e2 e1) (fun e => n1 (by rw [e]; simp))
  | a :: r, b :: r', x, z, h1, h2, n1, n2 => by
    have e1 := h1 x a (.inl ⟨rfl, rfl⟩)
    have e2 := h2 x b (.inl ⟨rfl, rfl⟩)
    obtain rfl := hR _ _ _ e1 e2
    rw [chain_eq hR r r' a z (fun p q h => h1 p q (.inr h)) (fun p q h => h2 p q (.inr h)) (fun h => n1 (List.mem_cons_of_mem _ h)) (fun h => n2 (List.mem_cons_of_mem _ h))]
/-- the same round word -/
def Rts (w v : List α) : Prop := ∃ A B C D, w = A ++ B ∧ v = C ++ D ∧ B ++ A = D ++ C
theorem Cy.rot {R : α → α → Prop} {A B : List α} (h : Cy R (A ++ B)) : Cy R (B ++ A) :=
  ⟨fun e => h.ne (by have := List.append_eq_nil_iff.mp e; rw [this.1, this.2]; rfl), nd_rot h.nd, fun x y n => h.st x y ((nx_rot _ _ _ _).mpr n)⟩
theorem Cy.same {R : α → α → Prop} (hR : Fnl R) {w v : List α} (hw : Cy R w) (hv : Cy R v) {x : α} (h1 : x ∈ w) (h2 : x ∈ v) : Rts w v := by
  obtain ⟨A, B, rfl⟩ := mem_rot h1
  obtain ⟨C, D, rfl⟩ := mem_rot h2
  have hw := hw.rot
  have hv := hv.rot
  refine ⟨A, x :: B, C, x :: D, rfl, rfl, ?_⟩
  show x :: (B ++ A) = x :: (D ++ C)
  rw [chain_eq hR (B ++ A) (D ++ C) x x (fun a b h => hw.st a b h) (fun a b h => hv.st a b h) (List.nodup_cons.mp (show (x :: (B ++ A)).Nodup from hw.nd)).1 (List.nodup_cons.mp (show (x :: (D ++ C)).Nodup from hv.nd)).1]
/-- cycles that hold each of u once -/
structure Dc (R : α → α → Prop) (u : List α) (Ws : List (List α)) : Prop where
  cy : ∀ w ∈ Ws, Cy R w
  pm : Ws.flatten.Perm u
/-- each cycle of one is a cycle of the other, begun elsewhere -/
theorem Dc.both {R : α → α → Prop} (hR : Fnl R) {u : List α} {Ws Vs : List (List α)} (h : Dc R u Ws) (g : Dc R u Vs) : ∀ w ∈ Ws, ∃ v ∈ Vs, Rts w v := by
  intro w hw
  have c := h.cy w hw
  obtain ⟨x, hx⟩ := List.exists_mem_of_ne_nil w c.ne
  have : x ∈ Vs.flatten := g.pm.mem_iff.mpr (h.pm.mem_iff.mp (List.mem_flatten.mpr ⟨w, hw, hx⟩))
  obtain ⟨v, hv, hxv⟩ := List.mem_flatten.mp this
  exact ⟨v, hv, c.same hR (g.cy v hv) hx hxv⟩
end
/-! ### the walk from a gap -/
/-- where a hole goes on -/
def Rh (u : List L) : L → L → Prop := fun x y => Nx u (inv x) y
theorem rh_fnl {u : List L} (S : Srf u) : Fnl (Rh u) := fun _ _ _ h1 h2 => nx_fun S.nd h1 h2
theorem nx_idx {u : List L} {k : Nat} {x y : L} (h1 : u[k]? = some x) (h2 : u[(k + 1) % u.length]? = some y) : Nx u x y := by
  obtain ⟨hk, e1⟩ := List.getElem?_eq_some_iff.mp h1
  have e : u = u.take k ++ x :: u.drop (k + 1) := by
    rw [← e1, List.getElem_cons_drop, List.take_append_drop]
  by_cases hl : k + 1 < u.length
  · rw [Nat.mod_eq_of_lt hl] at h2
    obtain ⟨hk2, e2⟩ := List.getElem?_eq_some_iff.mp h2
    have e3 : u.drop (k + 1) = y :: u.drop (k + 2) := by rw [List.drop_eq_getElem_cons hk2, e2]
    rw [e, e3, nx_rot]
    exact .inl ⟨rfl, rfl⟩
  · have hl : k + 1 = u.length := by omega
    rw [hl, Nat.mod_self] at h2
    have e3 : u.drop (k + 1) = [] := List.drop_eq_nil_of_le (by omega)
    rw [e, e3, nx_rot]
    show Adj (x :: (u.take k) ++ [x]) x y
    cases k with
    | zero =>
      rw [h1] at h2
      obtain rfl := Option.some.inj h2
      exact .inl ⟨rfl, rfl⟩
    | succ k =>
      cases u with
      | nil => simp at hk
      | cons a t =>
        have : a = y := by simpa using h2
        subst this
        exact .inl ⟨rfl, rfl⟩
theorem step_rh {u : List L} (S : Srf u) (g : Nat) : Rh u (letH u g) (letH u (stepH u g)) := by
  have h := stepH_lt S g
  refine nx_idx (k := stepH u g) ?_ (letH_get S _)
  rw [List.getElem?_eq_getElem h]
  exact congrArg some (List.getElem_idxOf h)
theorem get_nd {u : List L} (nd : u.Nodup) {i j : Nat} {x : L} (h1 : u[i]? = some x) (h2 : u[j]? = some x) : i = j := by
  obtain ⟨hi, e1⟩ := List.getElem?_eq_some_iff.mp h1
  obtain ⟨hj, e2⟩ := List.getElem?_eq_some_iff.mp h2
  have p := List.pairwise_iff_getElem.mp nd
  rcases Nat.lt_trichotomy i j with h | h | h
  · exact absurd (e1.trans e2.symm) (p i j hi hj h)
  · exact h
  · exact absurd (e2.trans e1.symm) (p j i hj hi h)
theorem letH_inj {u : List L} (S : Srf u) {g h : Nat} (hg : g < u.length) (hh : h < u.length) (e : letH u g = letH u h) : g = h := by
  have := get_nd S.nd (letH_get S g) (e ▸ letH_get S h)
  have e2 : ∀ g : Nat, g < u.length → (g + 1) % u.length = if g + 1 = u.length then 0 else g + 1 := fun g hg => by
    split
    · rename_i h
      rw [h, Nat.mod_self]
    · exact Nat.mod_eq_of_lt (by omega)
  rw [e2 g hg, e2 h hh] at this
  split at this <;> split at this <;> omega
theorem stepH_inj {u : List L} (S : Srf u) {g h : Nat} (hg : g < u.length) (hh : h < u.length) (e : stepH u g = stepH u h) : g = h := by
  refine letH_inj S hg hh ?_
  have a := List.getElem_idxOf (stepH_lt S g)
  have b := List.getElem_idxOf (stepH_lt S h)
  have : inv (letH u g) = inv (letH u h) := by
    rw [← a, ← b]
    congr 1
  rw [← inv_inv (letH u g), this, inv_inv]
/-- gaps that are led in a row -/
def Row (u : List L) (C : List Nat) (g : Nat) : Prop := ∀ a b, Adj (C ++ [g]) a b → b = stepH u a
theorem Row.on {u : List L} {C : List Nat} {g : Nat} (h : Row u C g) : Row u (C ++ [g]) (stepH u g) := by
  intro a b q
  rw [List.append_assoc] at q
  rcases (adj_mid C g [stepH u g] a b).mp q with q | q
  · exact h a b q
  · rcases q with ⟨rfl, rfl⟩ | q
    · rfl
    · exact q.elim
/-- a row that comes to a gap of its own has come round -/
theorem Row.round {u : List L} (S : Srf u) {C : List Nat} {g : Nat} (h : Row u C g) (nd : C.Nodup) (lt : ∀ c ∈ C, c < u.length) (hg : g ∈ C) : ∃ r, C = g :: r := by
  obtain ⟨A, B, rfl⟩ := mem_rot hg
  rcases List.eq_nil_or_concat A with rfl | ⟨A', p, e0⟩
  · exact ⟨B, rfl⟩
  · exfalso
    rw [List.concat_eq_append] at e0
    subst e0
    have e1 : g = stepH u p := h p g (by
      have : A' ++ [p] ++ g :: B ++ [g] = A' ++ p :: g :: (B ++ [g]) := by simp
      rw [this]; exact adj_at)
    obtain ⟨M, z, e⟩ : ∃ M z, g :: B = M ++ [z] := by
      rcases List.eq_nil_or_concat (g :: B) with h | ⟨M, z, h⟩
      · cases h
      · exact ⟨M, z, by rw [h, List.concat_eq_append]⟩
    have e2 : g = stepH u z := h z g (by
      have : A' ++ [p] ++ g :: B ++ [g] = (A' ++ [p] ++ M) ++ z :: g :: [] := by rw [e]; simp
      rw [this]; exact adj_at)
    have hz : z ∈ g :: B := by rw [e]; simp
    have hpz : p = z := stepH_inj S (lt p (by simp)) (lt z (by
      rw [List.mem_append]; exact .inr hz)) (e1.symm.trans e2)
    subst hpz
    have := List.nodup_append.mp nd
    exact this.2.2 p (by simp) p hz rfl
end Wd
set_option linter.all false
namespace Wd
/-- turned by p -/
def rot (w : List L) (p : Nat) : List L := w.drop p ++ w.take p
/-- the letters come again behind p places -/
def Per (w : List L) (p : Nat) : Prop := ∀ i, i < w.length → w[(i + p) % w.length]? = w[i]?
/-- the least turn that leaves a word as it is -/
structure Root (w : List L) (p : Nat) : Prop where
  pos : 1 ≤ p
  le : p ≤ w.length
  same : rot w p = w
  least : ∀ q, 1 ≤ q → q < p → rot w q ≠ w
end Wd
set_option linter.all false
/-! ### words that commute are powers of one word -/
namespace Wd
/-- the places where two words meet -/
def J (u v : List L) : Prop := ∀ x y, u.getLast? = some x → v.head? = some y → y ≠ inv x
/-! in the group -/
/-- two words are one and the same -/
def Eqv (u v : List L) : Prop := red u = red v
/-- a round word: not void, and itself twice is reduced -/
structure Rnd (c : List L) : Prop where
  ne : c ≠ []
  rd : Rd c
  jn : J c c
/-! texts that commute -/
/-! powers of a root, as they stand -/
/-- the root of a reduced word that is not nothing -/
structure RtOf (x r f q : List L) : Prop where
  ex : ∃ (m : List L) (p : Nat), x = f ++ m ++ bk f ∧ Rnd m ∧ Root m p ∧ q = m.take p
  eq : r = f ++ q ++ bk f
  rd : Rd r
  rn : Rnd q
end Wd
set_option Elab.async false
set_option linter.all false
set_option maxRecDepth 100000
/-! the least turn, by two places that go on -/
namespace L2
open PySem PySem.Spec PyProof.Rows Wd
theorem at_neg (s b : List L) (z : L) : atI (toS (s ++ z :: b)).cps.toList (-1 - (b.length : Int)) = some (cp z) := by
  rw [toS_cps]
  unfold atI ixN
  rw [if_neg (by omega), if_pos (by rw [List.length_map, List.length_append, List.length_cons]; omega)]
  show ((s ++ z :: b).map cp)[_]? = _
  have e : (-1 - (b.length : Int) + (((s ++ z :: b).map cp).length : Int)).toNat = s.length := by rw [List.length_map, List.length_append, List.length_cons]; omega
  rw [e, List.getElem?_map, List.getElem?_append_right (Nat.le_refl _), Nat.sub_self]
  rfl
/-- q beats p: alike for some letters, then q's is the lesser -/
def Bts (f : Nat → Nat) (n p q : Nat) : Prop := ∃ k, k < n ∧ (∀ t, t < k → f (p + t) = f (q + t)) ∧ f (q + k) < f (p + k)
structure LP (f : Nat → Nat) (n i j k : Nat) : Prop where
  ne : i ≠ j
  al : ∀ t, t < k → f (i + t) = f (j + t)
  bt : ∀ p, p < max i j → p ≠ i → p ≠ j → ∃ q, Bts f n p q
/-- the letters of a word, round and round -/
def rnd (w : List L) (t : Nat) : Nat := ((w.map cp)[t % w.length]?).getD 0
def rotN (w : List L) (p : Nat) : List Nat := (List.range w.length).map fun t => rnd w (p + t)
/-- the turns of a word, from each place on -/
def rots (w : List L) : List (List L) := (List.range (max 1 w.length)).map fun i => w.drop i ++ w.take i
theorem least_is (ys : List Str) (h : ys ≠ []) : ∃ m, Least m ys := by
  have hp : 0 < ys.length := List.length_pos_iff.mpr h
  obtain ⟨h1, h2⟩ := best_least ys (ys.length - 1)
  have q : ∀ i, i < ys.length → strAt ys i ∈ ys := fun i hi => by
    unfold strAt
    rw [List.getD_eq_getElem?_getD, List.getElem?_eq_getElem hi]
    exact List.getElem_mem hi
  refine ⟨strAt ys (argBest (btS ys) (ys.length - 1)), q _ (by omega), fun y hy => ?_⟩
  obtain ⟨j, hj, e⟩ := List.getElem_of_mem hy
  have := h2 j (by omega)
  have e2 : strAt ys j = y := by
    unfold strAt
    rw [List.getD_eq_getElem?_getD, List.getElem?_eq_getElem hj, e]
    rfl
  rw [e2] at this
  exact this
end L2
set_option linter.all false
/-! ### words alike up to turning -/
namespace Wd
/-- one word turned about is the other one -/
def Cj (u v : List L) : Prop := ∃ t, Eqv (t ++ u ++ bk t) v
/-- the same ring, begun elsewhere -/
def Rt (m p : List L) : Prop := ∃ a b, m = a ++ b ∧ p = b ++ a
theorem Rt.symm {m p : List L} (h : Rt m p) : Rt p m := let ⟨a, b, e, f⟩ := h; ⟨b, a, f, e⟩
theorem Rt.trans {m p q : List L} (h : Rt m p) (g : Rt p q) : Rt m q := by
  obtain ⟨a, b, rfl, e⟩ := h
  obtain ⟨c, d, f, rfl⟩ := g
  have e : b ++ a = c ++ d := e.symm.trans f
  rcases List.append_eq_append_iff.mp e with ⟨x, rfl, rfl⟩ | ⟨x, rfl, rfl⟩
  · exact ⟨x, d ++ b, by simp, by simp⟩
  · exact ⟨a ++ c, x, by simp, by simp⟩
/-- a round word or none -/
def R0 (m : List L) : Prop := m ≠ [] → Rnd m
end Wd
namespace L2
open PySem PySem.Spec PyProof.Rows Wd
theorem rt_rots {m p : List L} : Rt m p ↔ p ∈ rots m := by
  unfold rots
  rw [List.mem_map]
  constructor
  · rintro ⟨a, b, rfl, rfl⟩
    by_cases hb : b = []
    · subst hb
      refine ⟨0, List.mem_range.mpr (by omega), by simp⟩
    · have := List.length_pos_iff.mpr hb
      refine ⟨a.length, List.mem_range.mpr (by rw [List.length_append]; omega), ?_⟩
      rw [List.drop_left' rfl, List.take_left' rfl]
  · rintro ⟨i, _, rfl⟩
    exact ⟨m.take i, m.drop i, (List.take_append_drop i m).symm, rfl⟩
theorem least_rt {m p : List L} {a b : Str} (ha : Least a ((rots m).map toS)) (hb : Least b ((rots p).map toS)) : a = b ↔ Rt m p := by
  obtain ⟨x, hx, rfl⟩ := List.mem_map.mp ha.1
  obtain ⟨y, hy, rfl⟩ := List.mem_map.mp hb.1
  constructor
  · intro e
    have e := toS_inj e
    subst e
    exact (rt_rots.mpr hx).trans (rt_rots.mpr hy).symm
  · intro h
    refine Least.one ha ⟨?_, fun z hz => ?_⟩
    · exact List.mem_map.mpr ⟨y, rt_rots.mp (h.trans (rt_rots.mpr hy)), rfl⟩
    · obtain ⟨w, hw, rfl⟩ := List.mem_map.mp hz
      exact hb.2 _ (List.mem_map.mpr ⟨w, rt_rots.mp (h.symm.trans (rt_rots.mpr hw)), rfl⟩)
end L2
set_option Elab.async false
set_option linter.all false
set_option maxRecDepth 100000
set_option maxHeartbeats 0
namespace Wd
def Pre (u : List L) (S : List Nat) : Prop := ∀ g ∈ S, ∃ g' ∈ S, stepH u g' = g
theorem wk_cyc {u : List L} (U : Srf u) {S0 : List Nat} (pre : Pre u S0) {g0 : Nat} (h0 : g0 ∉ S0) : ∀ (k : Nat) (C : List Nat) (g : Nat), k + (S0 ++ C).length = u.length + 1 → Sn u (S0 ++ C) → g < u.length → Row u C g → ((C = [] ∧ g = g0) ∨ ∃ r, C = g0 :: r) →
    ∃ C', wk u g (S0 ++ C) (C.map (letH u)) = (S0 ++ C', C'.map (letH u)) ∧ Sn u (S0 ++ C') ∧ (∃ r, C' = g0 :: r) ∧ Row u C' g0 := by
  intro k
  induction k with
  | zero =>
    intro C g hk hs _ _ _
    have := hs.le
    omega
  | succ k ih =>
    intro C g hk hs hg hr hh
    by_cases hm : g ∈ S0 ++ C
    · rw [wk_in hm]
      have nd := List.nodup_append.mp hs.nd
      have hC : ∃ r, C = g0 :: r := by
        rcases hh with ⟨rfl, rfl⟩ | h
        · exact absurd (by simpa using hm) h0
        · exact h
      have hgC : g ∈ C := by
        rcases List.mem_append.mp hm with h | h
        · exfalso
          obtain ⟨g', h1, h2⟩ := pre g h
          obtain ⟨M, z, e⟩ : ∃ M z, C = M ++ [z] := by
            obtain ⟨r, rfl⟩ := hC
            rcases List.eq_nil_or_concat (g0 :: r) with h | ⟨M, z, h⟩
            · cases h
            · exact ⟨M, z, by rw [h, List.concat_eq_append]⟩
          have e2 : g = stepH u z := hr z g (by
            have : C ++ [g] = M ++ z :: g :: [] := by rw [e]; simp
            rw [this]; exact adj_at)
          have hz : z ∈ C := by rw [e]; simp
          have := stepH_inj U (hs.lt g' (List.mem_append.mpr (.inl h1))) (hs.lt z (List.mem_append.mpr (.inr hz))) (h2.trans e2)
          exact nd.2.2 g' h1 z hz this
        · exact h
      obtain ⟨r, e⟩ := Row.round U hr nd.2.1 (fun c hc => hs.lt c (List.mem_append.mpr (.inr hc))) hgC
      obtain ⟨r', e'⟩ := hC
      have : g = g0 := by rw [e] at e'; exact (List.cons.inj e').1
      subst this
      exact ⟨C, rfl, hs, ⟨r, e⟩, hr⟩
    · have hs' := hs.snoc hg hm
      rw [wk_out hs hg hm]
      have e1 : S0 ++ C ++ [g] = S0 ++ (C ++ [g]) := List.append_assoc ..
      have e2 : C.map (letH u) ++ [letH u g] = (C ++ [g]).map (letH u) := by simp
      rw [e1] at hs' ⊢
      rw [e2]
      refine ih (C ++ [g]) (stepH u g) ?_ hs' (stepH_lt U g) hr.on (.inr ?_)
      · rw [← e1, List.length_append, List.length_singleton]
        omega
      · rcases hh with ⟨rfl, rfl⟩ | ⟨r, rfl⟩
        · exact ⟨[], rfl⟩
        · exact ⟨r ++ [g], rfl⟩
/-- a cycle of gaps -/
def Gc (u : List L) (C : List Nat) : Prop := ∃ g r, C = g :: r ∧ Row u C g
theorem Gc.st {u : List L} {C : List Nat} (h : Gc u C) {a b : Nat} (n : Nx C a b) : b = stepH u a := by
  obtain ⟨g, r, rfl, h⟩ := h
  exact h a b n
theorem Gc.pre {u : List L} {C : List Nat} (h : Gc u C) {g : Nat} (hg : g ∈ C) : ∃ g' ∈ C, stepH u g' = g := by
  obtain ⟨y, hy⟩ := nx_ex (w := C.reverse) (x := g) (by simpa using hg)
  have hy := rev_nx hy
  exact ⟨y, (nx_mem hy).1, (h.st hy).symm⟩
structure HI (u : List L) (i : Nat) (Cs : List (List Nat)) : Prop where
  s : (holS u i).1 = Cs.flatten
  w : (holS u i).2 = Cs.map (List.map (letH u))
  sn : Sn u Cs.flatten
  gc : ∀ C ∈ Cs, Gc u C
  al : ∀ g, g < i → g ∈ Cs.flatten
theorem hi_all {u : List L} (U : Srf u) : ∀ i, i ≤ u.length → ∃ Cs, HI u i Cs
  | 0, _ => ⟨[], rfl, rfl, Sn.nil u, fun _ h => absurd h (by simp), fun g h => absurd h (by omega)⟩
  | i + 1, hi => by
    obtain ⟨Cs, h⟩ := hi_all U i (by omega)
    by_cases hm : i ∈ (holS u i).1
    · refine ⟨Cs, by rw [hol_in hm]; exact h.s, by rw [hol_in hm]; exact h.w, h.sn, h.gc, fun g hg => ?_⟩
      by_cases e : g = i
      · subst e
        rw [← h.s]
        exact hm
      · exact h.al g (by omega)
    · rw [h.s] at hm
      have pre : Pre u Cs.flatten := fun g hg => by
        obtain ⟨C, hC, hg⟩ := List.mem_flatten.mp hg
        obtain ⟨g', h1, h2⟩ := (h.gc C hC).pre hg
        exact ⟨g', List.mem_flatten.mpr ⟨C, hC, h1⟩, h2⟩
      have hle := h.sn.le
      obtain ⟨C, e, hs, ⟨r, hr⟩, hrow⟩ := wk_cyc U pre hm (u.length + 1 - Cs.flatten.length) [] i (by rw [List.append_nil]; omega) (by rw [List.append_nil]; exact h.sn) (by omega) (fun a b q => q.elim) (.inl ⟨rfl, rfl⟩)
      rw [List.append_nil] at e
      have e : wk u i Cs.flatten [] = (Cs.flatten ++ C, C.map (letH u)) := e
      have ho : holS u (i + 1) = ((wk u i (holS u i).1 []).1, (holS u i).2 ++ [(wk u i (holS u i).1 []).2]) := hol_out (by rw [h.s]; exact hm)
      rw [h.s, e, h.w] at ho
      have ef : (Cs ++ [C]).flatten = Cs.flatten ++ C := by simp
      refine ⟨Cs ++ [C], by rw [ho, ef], by rw [ho]; simp, by rw [ef]; exact hs, fun D hD => ?_, fun g hg => ?_⟩
      · rcases List.mem_append.mp hD with hD | hD
        · exact h.gc D hD
        · rw [List.mem_singleton] at hD
          subst hD
          exact ⟨i, r, hr, hrow⟩
      · rw [ef, List.mem_append]
        by_cases e : g = i
        · subst e
          exact .inr (by rw [hr]; simp)
        · exact .inl (h.al g (by omega))
theorem pm_nd {α : Type} [DecidableEq α] {a b : List α} (na : a.Nodup) (nb : b.Nodup) (h : ∀ x, x ∈ a ↔ x ∈ b) : a.Perm b := by
  rw [List.perm_iff_count]
  intro x
  by_cases hx : x ∈ a
  · rw [na.count, nb.count, if_pos hx, if_pos ((h x).mp hx)]
  · rw [List.count_eq_zero.mpr hx, List.count_eq_zero.mpr (fun q => hx ((h x).mpr q))]
theorem nd_map {α β : Type} (f : α → β) : ∀ {l : List α}, l.Nodup → (∀ x ∈ l, ∀ y ∈ l, f x = f y → x = y) → (l.map f).Nodup
  | [], _, _ => List.nodup_nil
  | a :: t, nd, h => by
    rw [List.map_cons, List.nodup_cons]
    obtain ⟨h1, h2⟩ := List.nodup_cons.mp nd
    refine ⟨fun q => ?_, nd_map f h2 fun x hx y hy => h x (List.mem_cons_of_mem _ hx) y (List.mem_cons_of_mem _ hy)⟩
    obtain ⟨b, hb, e⟩ := List.mem_map.mp q
    have := h b (List.mem_cons_of_mem _ hb) a List.mem_cons_self e
    exact h1 (this ▸ hb)
/-- the holes are the cycles -/
theorem hol_dc {u : List L} (U : Srf u) : Dc (Rh u) u (hol u) := by
  obtain ⟨Cs, h⟩ := hi_all U u.length (Nat.le_refl _)
  have hw : hol u = Cs.map (List.map (letH u)) := h.w
  rw [hw]
  have inj : ∀ x ∈ Cs.flatten, ∀ y ∈ Cs.flatten, letH u x = letH u y → x = y := fun x hx y hy e => letH_inj U (h.sn.lt x hx) (h.sn.lt y hy) e
  refine ⟨fun w hw => ?_, ?_⟩
  · obtain ⟨C, hC, rfl⟩ := List.mem_map.mp hw
    have g := h.gc C hC
    have sub : ∀ x ∈ C, x ∈ Cs.flatten := fun x hx => List.mem_flatten.mpr ⟨C, hC, hx⟩
    refine ⟨?_, nd_map _ (List.Sublist.nodup (List.sublist_flatten_of_mem hC) h.sn.nd) fun x hx y hy => inj x (sub x hx) y (sub y hy), fun x y n => ?_⟩
    · obtain ⟨g0, r, rfl, _⟩ := g
      simp
    · obtain ⟨a, b, n', rfl, rfl⟩ := nx_map _ n
      obtain rfl := g.st n'
      exact step_rh U a
  · rw [← List.map_flatten]
    refine pm_nd (nd_map _ h.sn.nd inj) U.nd fun x => ?_
    constructor
    · intro hx
      obtain ⟨g, _, rfl⟩ := List.mem_map.mp hx
      exact letH_mem U g
    · intro hx
      obtain ⟨k, hk, e⟩ := List.mem_iff_getElem.mp hx
      have hp := U.pos
      refine List.mem_map.mpr ⟨(k + u.length - 1) % u.length, h.al _ (Nat.mod_lt _ hp), ?_⟩
      have e2 : ((k + u.length - 1) % u.length + 1) % u.length = k := by
        rw [Nat.mod_add_mod]
        have : k + u.length - 1 + 1 = k + u.length := by omega
        rw [this, Nat.add_mod_right]
        exact Nat.mod_eq_of_lt hk
      have := letH_get U ((k + u.length - 1) % u.length)
      rw [e2, List.getElem?_eq_getElem hk, e] at this
      exact (Option.some.inj this).symm
theorem Rts.rt {w v : List L} (h : Rts w v) : Rt w v := by
  obtain ⟨A, B, C, D, rfl, rfl, e⟩ := h
  exact Rt.trans (p := B ++ A) ⟨A, B, rfl, rfl⟩ (by rw [e]; exact ⟨D, C, rfl, rfl⟩)
/-- hole words go round reduced -/
theorem hol_round {u : List L} (U : Srf u) {w : List L} (hw : w ∈ hol u) {x y : L} (n : Nx w x y) : y ≠ inv x := by
  have c := (hol_dc U).cy w hw
  have r : Nx u (inv x) y := c.st x y n
  intro e
  subst e
  have hm := (nx_mem r).1
  obtain ⟨A, B, rfl⟩ := mem_rot hm
  have r := (nx_rot _ _ _ _).mp r
  have nd : (inv x :: (B ++ A)).Nodup := nd_rot U.nd
  have h := (nx_head nd).mp r
  have hx : x ∈ B ++ A := by
    have := U.iv (inv x) hm
    rw [inv_inv] at this
    simp only [List.mem_append, List.mem_cons] at this ⊢
    rcases this with h | h | h
    · exact .inr h
    · exact absurd h.symm (inv_ne x)
    · exact .inl h
  cases e : B ++ A with
  | nil => rw [e] at hx; cases hx
  | cons c t =>
    rw [e] at h nd
    simp at h
    exact (List.nodup_cons.mp nd).1 (by rw [h]; simp)
end Wd
set_option Elab.async false
set_option linter.all false
set_option maxRecDepth 100000
set_option maxHeartbeats 0
/-! ### one pair of letters less -/
namespace Wd
section
variable {α : Type}
/-- what follows when x is taken out -/
theorem nx_out {A B : List α} {x a b : α} (nd : (A ++ x :: B).Nodup) : Nx (A ++ B) a b ↔ a ≠ x ∧ b ≠ x ∧ (Nx (A ++ x :: B) a b ∨ (Nx (A ++ x :: B) a x ∧ Nx (A ++ x :: B) x b)) := by
  rw [nx_rot A B, nx_rot A (x :: B), nx_rot A (x :: B), nx_rot A (x :: B)]
  have nd : (x :: (B ++ A)).Nodup := nd_rot nd
  show Nx (B ++ A) a b ↔ a ≠ x ∧ b ≠ x ∧ (Nx (x :: (B ++ A)) a b ∨ (Nx (x :: (B ++ A)) a x ∧ Nx (x :: (B ++ A)) x b))
  generalize B ++ A = v at nd ⊢
  obtain ⟨hx, ndv⟩ := List.nodup_cons.mp nd
  rw [nx_head nd]
  cases v with
  | nil =>
    show False ↔ _
    constructor
    · exact False.elim
    · rintro ⟨h1, h2, h | h⟩
      · have := (nx_mem h).1
        simp at this
        exact h1 this
      · simp at h
        exact h2 h.2.symm
  | cons c t =>
    have hc : c ≠ x := fun e => hx (by rw [e]; simp)
    have e1 : ∀ p q, Nx (x :: c :: t) p q ↔ (p = x ∧ q = c) ∨ Adj (c :: t ++ [x]) p q := fun p q => Iff.rfl
    obtain ⟨M, z, e⟩ : ∃ M z, c :: t = M ++ [z] := by
      rcases List.eq_nil_or_concat (c :: t) with h | ⟨M, z, h⟩
      · cases h
      · exact ⟨M, z, by rw [h, List.concat_eq_append]⟩
    have e2 : ∀ p q r, Adj (c :: t ++ [r]) p q ↔ Adj (c :: t) p q ∨ (p = z ∧ q = r) := fun p q r => by
      have : c :: t ++ [r] = M ++ z :: [r] := by rw [e]; simp
      rw [this, adj_mid, ← e, adj_two, adj_one]
      simp
    have nin : ∀ {p q}, Adj (c :: t) p q → p ≠ x ∧ q ≠ x := fun h => ⟨fun e => hx (e ▸ (adj_mem h).1), fun e => hx (e ▸ (adj_mem h).2)⟩
    have hz : z ≠ x := fun e' => hx (by rw [← e', e]; simp)
    show Adj (c :: t ++ [c]) a b ↔ _
    rw [e1, e1, e2, e2, e2]
    have hh : ((c :: t ++ [x]).head? = some b) ↔ b = c := by simp [eq_comm]
    rw [hh]
    constructor
    · rintro (h | ⟨rfl, rfl⟩)
      · exact ⟨(nin h).1, (nin h).2, .inl (.inr (.inl h))⟩
      · exact ⟨hz, hc, .inr ⟨.inr (.inr ⟨rfl, rfl⟩), rfl⟩⟩
    · rintro ⟨h1, h2, (⟨h, _⟩ | h | ⟨_, h⟩) | ⟨⟨h, _⟩ | h | ⟨h, _⟩, h'⟩⟩
      · exact absurd h h1
      · exact .inl h
      · exact absurd h h2
      · exact absurd h h1
      · exact absurd rfl (nin h).2
      · exact .inr ⟨h, h'⟩
end
end Wd
set_option Elab.async false
set_option linter.all false
set_option maxRecDepth 100000
set_option maxHeartbeats 0
namespace Wd
section
variable {α : Type}
theorem Rts.pm {w v : List α} (h : Rts w v) : w.Perm v := by
  obtain ⟨A, B, C, D, rfl, rfl, e⟩ := h
  exact List.perm_append_comm.trans (by rw [e]; exact List.perm_append_comm)
theorem flat_pm : ∀ {Ws Vs : List (List α)}, Ws.Perm Vs → Ws.flatten.Perm Vs.flatten
  | _, _, .nil => .refl _
  | _, _, .cons x h => by simpa using (flat_pm h).append_left x
  | _, _, .swap x y l => by
    simp only [List.flatten_cons, ← List.append_assoc]
    exact List.Perm.append_right _ List.perm_append_comm
  | _, _, .trans h g => (flat_pm h).trans (flat_pm g)
theorem Dc.pms {R : α → α → Prop} {u : List α} {Ws Vs : List (List α)} (h : Dc R u Ws) (p : Vs.Perm Ws) : Dc R u Vs := ⟨fun w hw => h.cy w (p.mem_iff.mp hw), (flat_pm p).trans h.pm⟩
/-- any two rows of the cycles are alike -/
theorem dc_map {R : α → α → Prop} (hR : Fnl R) {β : Type} (l : List α → β) (hl : ∀ w v, Rts w v → l w = l v) : ∀ (Ws Vs : List (List α)) (u : List α), Dc R u Ws → Dc R u Vs → (Ws.map l).Perm (Vs.map l)
  | [], Vs, u, h, g => by
    have hu : u = [] := by simpa using h.pm
    subst hu
    cases Vs with
    | nil => exact .refl _
    | cons v T =>
      exfalso
      have c := g.cy v (by simp)
      have e : (v :: T).flatten = [] := by simpa using g.pm
      have : v = [] := by
        rw [List.flatten_cons] at e
        exact (List.append_eq_nil_iff.mp e).1
      exact c.ne this
  | w :: T, Vs, u, h, g => by
    obtain ⟨v, hv, r⟩ := h.both hR g w (by simp)
    obtain ⟨S, S', e⟩ := List.append_of_mem hv
    have p : (v :: (S ++ S')).Perm Vs := by rw [e]; exact List.perm_middle.symm
    have g' := g.pms p
    have q : (w ++ T.flatten).Perm (w ++ (S ++ S').flatten) := by
      have h1 : (w ++ T.flatten).Perm u := by simpa using h.pm
      have h2 : (v ++ (S ++ S').flatten).Perm u := by
        have := g'.pm
        rwa [List.flatten_cons] at this
      exact h1.trans (h2.symm.trans (List.Perm.append_right _ r.pm.symm))
    have q := (List.perm_append_left_iff w).mp q
    have ih := dc_map hR l hl T (S ++ S') T.flatten ⟨fun x hx => h.cy x (by simp [hx]), .refl _⟩ ⟨fun x hx => g'.cy x (List.mem_cons_of_mem _ hx), q.symm⟩
    have : (Vs.map l).Perm (l v :: (S ++ S').map l) := by simpa using (p.map l).symm
    rw [List.map_cons, hl w v r]
    exact (ih.cons _).trans this.symm
theorem dc_len {R : α → α → Prop} (hR : Fnl R) {Ws Vs : List (List α)} {u : List α} (h : Dc R u Ws) (g : Dc R u Vs) : Ws.length = Vs.length := by
  have := (dc_map hR (fun _ => ()) (fun _ _ _ => rfl) Ws Vs u h g).length_eq
  simpa using this
theorem nx_self {u : List α} (nd : u.Nodup) {p : α} (h : Nx u p p) : ∀ q ∈ u, q = p := by
  obtain ⟨A, B, rfl⟩ := mem_rot (nx_mem h).1
  have h := (nx_rot _ _ _ _).mp h
  have nd : (p :: (B ++ A)).Nodup := nd_rot nd
  have h := (nx_head nd).mp h
  cases e : B ++ A with
  | nil =>
    obtain ⟨rfl, rfl⟩ := List.append_eq_nil_iff.mp e
    intro q hq
    simpa using hq
  | cons c t =>
    rw [e] at h nd
    simp at h
    exact absurd (by rw [h]; simp) (List.nodup_cons.mp nd).1
/-- a way from a by P to b -/
def Pt (R : α → α → Prop) (a : α) (P : List α) (b : α) : Prop := ∀ c d, Adj (a :: P ++ [b]) c d → R c d
theorem Pt.nil {R : α → α → Prop} {a b : α} (h : Pt R a [] b) : R a b := h a b (.inl ⟨rfl, rfl⟩)
theorem Pt.ends {R : α → α → Prop} {a b : α} {P : List α} (h : Pt R a P b) (hP : P ≠ []) : ∃ p P' M z, P = p :: P' ∧ P = M ++ [z] ∧ R a p ∧ R z b ∧ ∀ c d, Adj P c d → R c d := by
  obtain ⟨p, P', e⟩ : ∃ p P', P = p :: P' := by
    cases P with
    | nil => exact absurd rfl hP
    | cons p P' => exact ⟨p, P', rfl⟩
  obtain ⟨M, z, e2⟩ : ∃ M z, P = M ++ [z] := by
    rcases List.eq_nil_or_concat P with h | ⟨M, z, h⟩
    · exact absurd h hP
    · exact ⟨M, z, by rw [h, List.concat_eq_append]⟩
  have e3 : a :: P ++ [b] = (a :: M) ++ z :: [b] := by rw [e2]; simp
  refine ⟨p, P', M, z, e, e2, h a p ?_, h z b ?_, fun c d q => h c d ?_⟩
  · rw [e]
    exact .inl ⟨rfl, rfl⟩
  · rw [e3]
    exact adj_at
  · rw [e3, adj_mid]
    refine .inl ?_
    have : a :: M ++ [z] = a :: P := by rw [e2]; rfl
    rw [this, e]
    rw [e] at q
    exact .inr q
theorem cy_mk {R : α → α → Prop} {V V' M : List α} {v z : α} (e1 : V = v :: V') (e2 : V = M ++ [z]) (nd : V.Nodup) (h1 : ∀ c d, Adj V c d → R c d) (h2 : R z v) : Cy R V := by
  refine ⟨by rw [e1]; simp, nd, fun x y n => ?_⟩
  have n : Adj (V ++ [v]) x y := by rw [e1] at n ⊢; exact n
  have : V ++ [v] = M ++ z :: [v] := by rw [e2]; simp
  rw [this, adj_mid, ← e2] at n
  rcases n with n | n
  · exact h1 x y n
  · rcases n with ⟨rfl, rfl⟩ | n
    · exact h2
    · exact n.elim
theorem adj_app {P Q M Q' : List α} {z q : α} (e1 : P = M ++ [z]) (e2 : Q = q :: Q') (c d : α) : Adj (P ++ Q) c d ↔ Adj P c d ∨ (c = z ∧ d = q) ∨ Adj Q c d := by
  have : P ++ Q = M ++ z :: Q := by rw [e1]; simp
  rw [this, adj_mid, ← e1, e2]
  rfl
end
end Wd
set_option Elab.async false
set_option linter.all false
set_option maxRecDepth 100000
set_option maxHeartbeats 0
namespace Wd
/-- u with the pair x, y taken out is v -/
structure Out (u : List L) (x y : L) (v : List L) : Prop where
  ex : ∃ A B C D, u = A ++ x :: B ∧ A ++ B = C ++ y :: D ∧ v = C ++ D
theorem Out.pm {u v : List L} {x y : L} (o : Out u x y v) : u.Perm (x :: y :: v) := by
  obtain ⟨A, B, C, D, rfl, e, rfl⟩ := o.ex
  refine List.perm_middle.trans (List.Perm.cons _ ?_)
  rw [e]
  exact List.perm_middle
theorem Out.nx {u v : List L} {x y : L} (o : Out u x y v) (nd : u.Nodup) (p q : L) (hp : p ≠ x) (hp' : p ≠ y) (hq : q ≠ x) (hq' : q ≠ y)
    (h : Nx u p q ∨ (Nx u p x ∧ Nx u x q) ∨ (Nx u p y ∧ Nx u y q) ∨ (Nx u p x ∧ Nx u x y ∧ Nx u y q) ∨ (Nx u p y ∧ Nx u y x ∧ Nx u x q)) : Nx v p q := by
  have hxy : y ≠ x := by
    have := o.pm.nodup_iff.mp nd
    intro e
    rw [e] at this
    simp at this
  obtain ⟨A, B, C, D, rfl, e, rfl⟩ := o.ex
  have nd2 : (C ++ y :: D).Nodup := by
    rw [← e]
    exact (List.nodup_cons.mp (List.perm_middle.nodup_iff.mp nd)).2
  have s1 : ∀ a b, a ≠ x → b ≠ x → (Nx (A ++ x :: B) a b ∨ (Nx (A ++ x :: B) a x ∧ Nx (A ++ x :: B) x b)) → Nx (C ++ y :: D) a b := fun a b h1 h2 h => by
    rw [← e]
    exact (nx_out nd).mpr ⟨h1, h2, h⟩
  refine (nx_out nd2).mpr ⟨hp', hq', ?_⟩
  rcases h with h | ⟨h1, h2⟩ | ⟨h1, h2⟩ | ⟨h1, h2, h3⟩ | ⟨h1, h2, h3⟩
  · exact .inl (s1 p q hp hq (.inl h))
  · exact .inl (s1 p q hp hq (.inr ⟨h1, h2⟩))
  · exact .inr ⟨s1 p y hp hxy (.inl h1), s1 y q hxy hq (.inl h2)⟩
  · exact .inr ⟨s1 p y hp hxy (.inr ⟨h1, h2⟩), s1 y q hxy hq (.inl h3)⟩
  · exact .inr ⟨s1 p y hp hxy (.inl h1), s1 y q hxy hq (.inr ⟨h2, h3⟩)⟩
theorem out_ex {u : List L} (nd : u.Nodup) {x y : L} (hx : x ∈ u) (hy : y ∈ u) (hn : y ≠ x) : ∃ v, Out u x y v := by
  obtain ⟨A, B, rfl⟩ := mem_rot hx
  have : y ∈ A ++ B := by
    simp only [List.mem_append, List.mem_cons] at hy ⊢
    rcases hy with h | h | h
    · exact .inl h
    · exact absurd h hn
    · exact .inr h
  obtain ⟨C, D, e⟩ := mem_rot this
  exact ⟨C ++ D, ⟨A, B, C, D, rfl, e, rfl⟩⟩
theorem inv_eqn {a x : L} (h : a ≠ x) : inv a ≠ inv x := fun e => h (by rw [← inv_inv a, e, inv_inv])
theorem inv_eqn' {a x : L} (h : a ≠ inv x) : inv a ≠ x := fun e => h (by rw [← e, inv_inv])
theorem Out.rh {u v : List L} {x : L} (o : Out u x (inv x) v) (nd : u.Nodup) {a b : L} (ha : a ≠ x) (ha' : a ≠ inv x) (hb : b ≠ x) (hb' : b ≠ inv x)
    (h : Rh u a b ∨ (Rh u a x ∧ Rh u (inv x) b) ∨ (Rh u a (inv x) ∧ Rh u x b) ∨ (Rh u a x ∧ Rh u (inv x) (inv x) ∧ Rh u x b) ∨ (Rh u a (inv x) ∧ Rh u x x ∧ Rh u (inv x) b)) : Rh v a b := by
  refine o.nx nd (inv a) b (inv_eqn' ha') (inv_eqn ha) hb hb' ?_
  unfold Rh at h
  simp only [inv_inv] at h
  exact h
theorem two_of {u : List L} (U : Srf u) {x : L} (h1 : Rh u x x) (h2 : Rh u (inv x) (inv x)) : u.length ≤ 2 := by
  unfold Rh at h1 h2
  rw [inv_inv] at h2
  have hx := (nx_mem h2).1
  obtain ⟨A, B, rfl⟩ := mem_rot hx
  have h1 := (nx_rot _ _ _ _).mp h1
  have h2 := (nx_rot _ _ _ _).mp h2
  have nd : (x :: (B ++ A)).Nodup := nd_rot U.nd
  have h2 := (nx_head nd).mp h2
  cases e : B ++ A with
  | nil =>
    obtain ⟨rfl, rfl⟩ := List.append_eq_nil_iff.mp e
    simp
  | cons c t =>
    rw [e] at h2
    simp at h2
    have h1 : Nx (x :: (B ++ A)) (inv x) x := h1
    rw [e, h2] at h1 nd
    have h1 := (nx_rot [x] (inv x :: t) _ _).mp h1
    have nd' : (inv x :: (t ++ [x])).Nodup := nd_rot (A := [x]) nd
    have h1 := (nx_head nd').mp h1
    cases t with
    | nil =>
      have := congrArg List.length e
      simp only [List.length_append, List.length_cons, List.length_nil] at this ⊢
      omega
    | cons d t =>
      simp at h1
      subst h1
      simp at nd
theorem dc_two {R : L → L → Prop} {u : List L} {Ws : List (List L)} (h : Dc R u Ws) {x y : L} (hx : x ∈ u) (hy : y ∈ u) (hn : y ≠ x) :
    (∃ (P Q : List L) (T : List (List L)), Ws.length = T.length + 1 ∧ Pt R x P y ∧ Pt R y Q x ∧ (x :: y :: (P ++ Q ++ T.flatten)).Perm u ∧ ∀ w ∈ T, Cy R w) ∨
    (∃ (P Q : List L) (T : List (List L)), Ws.length = T.length + 2 ∧ Pt R x P x ∧ Pt R y Q y ∧ (x :: y :: (P ++ Q ++ T.flatten)).Perm u ∧ ∀ w ∈ T, Cy R w) := by
  obtain ⟨w, hw, hxw⟩ := List.mem_flatten.mp (h.pm.mem_iff.mpr hx)
  obtain ⟨v, hv, hyv⟩ := List.mem_flatten.mp (h.pm.mem_iff.mpr hy)
  obtain ⟨S, S', e⟩ := List.append_of_mem hw
  have pw : (w :: (S ++ S')).Perm Ws := by rw [e]; exact List.perm_middle.symm
  have g := h.pms pw
  have cw := h.cy w hw
  obtain ⟨A, B, eA⟩ := mem_rot hxw
  have cw' : Cy R (x :: (B ++ A)) := by rw [eA] at cw; exact cw.rot
  have pAB : (A ++ x :: B).Perm (x :: (B ++ A)) := List.perm_append_comm
  have pu : (x :: (B ++ A) ++ (S ++ S').flatten).Perm u := by
    have := g.pm
    rw [List.flatten_cons, eA] at this
    exact (List.Perm.append_right _ pAB.symm).trans this
  by_cases hyw : y ∈ w
  · left
    have hy2 : y ∈ B ++ A := by
      have := (eA ▸ hyw : y ∈ A ++ x :: B)
      simp only [List.mem_append, List.mem_cons] at this ⊢
      rcases this with h | h | h
      · exact .inr h
      · exact absurd h hn
      · exact .inl h
    obtain ⟨P, Q, eP⟩ := mem_rot hy2
    rw [eP] at cw' pu
    have cs : ∀ c d, Adj (x :: (P ++ y :: Q) ++ [x]) c d → R c d := cw'.st
    have e2 : x :: (P ++ y :: Q) ++ [x] = (x :: P) ++ y :: (Q ++ [x]) := by simp
    rw [e2] at cs
    refine ⟨P, Q, S ++ S', ?_, fun c d q => cs c d ((adj_mid _ _ _ _ _).mpr (.inl q)), fun c d q => cs c d ((adj_mid _ _ _ _ _).mpr (.inr q)), ?_, fun z hz => g.cy z (List.mem_cons_of_mem _ hz)⟩
    · have := pw.length_eq
      simpa using this.symm
    · refine List.Perm.trans ?_ pu
      refine List.Perm.cons x ?_
      have : (P ++ y :: Q).Perm (y :: (P ++ Q)) := List.perm_middle
      exact (List.Perm.append_right _ this.symm)
  · right
    have hvm : v ∈ S ++ S' := by
      have := pw.mem_iff.mpr hv
      rcases List.mem_cons.mp this with h | h
      · exact absurd (h ▸ hyv) hyw
      · exact h
    obtain ⟨T, T', eT⟩ := List.append_of_mem hvm
    have pv : (v :: (T ++ T')).Perm (S ++ S') := by rw [eT]; exact List.perm_middle.symm
    have cv := h.cy v hv
    obtain ⟨C, D, eC⟩ := mem_rot hyv
    have cv' : Cy R (y :: (D ++ C)) := by rw [eC] at cv; exact cv.rot
    have pCD : (C ++ y :: D).Perm (y :: (D ++ C)) := List.perm_append_comm
    refine ⟨B ++ A, D ++ C, T ++ T', ?_, cw'.st, cv'.st, ?_, fun z hz => g.cy z (List.mem_cons_of_mem _ (pv.mem_iff.mp (List.mem_cons_of_mem _ hz)))⟩
    · have h1 := pw.length_eq
      have h2 := pv.length_eq
      simp only [List.length_cons] at h1 h2
      omega
    · refine List.Perm.trans ?_ pu
      refine List.Perm.cons x ?_
      have h3 : (y :: (D ++ C) ++ (T ++ T').flatten).Perm (S ++ S').flatten := by
        have := flat_pm pv
        rw [List.flatten_cons, eC] at this
        exact (List.Perm.append_right _ pCD.symm).trans this
      have h4 : (B ++ A ++ (y :: (D ++ C) ++ (T ++ T').flatten)).Perm (B ++ A ++ (S ++ S').flatten) := List.Perm.append_left _ h3
      refine List.Perm.trans ?_ h4
      have : B ++ A ++ (y :: (D ++ C) ++ (T ++ T').flatten) = (B ++ A) ++ y :: ((D ++ C) ++ (T ++ T').flatten) := by simp
      rw [this]
      have q := List.perm_middle (a := y) (l₁ := B ++ A) (l₂ := (D ++ C) ++ (T ++ T').flatten)
      refine List.Perm.trans ?_ q.symm
      simp
end Wd
set_option Elab.async false
set_option linter.all false
set_option maxRecDepth 100000
set_option maxHeartbeats 0
namespace Wd
theorem not_self {u : List L} (U : Srf u) {x : L} (hx : x ∈ u) : ¬ Nx u x x := fun h => inv_ne x (nx_self U.nd h (inv x) (U.iv x hx))
theorem par_step {u v : List L} (U : Srf u) (h4 : 2 < u.length) {x : L} (hx : x ∈ u) (o : Out u x (inv x) v) {Ws : List (List L)} (h : Dc (Rh u) u Ws) : ∃ Vs, Dc (Rh v) v Vs ∧ (Vs.length = Ws.length + 1 ∨ Vs.length + 1 = Ws.length) := by
  have hX := U.iv x hx
  have key : ∀ (P Q : List L) (T : List (List L)), (x :: inv x :: (P ++ Q ++ T.flatten)).Perm u → (∀ w ∈ T, Cy (Rh u) w) →
      (P ++ Q ++ T.flatten).Perm v ∧ (P ++ Q ++ T.flatten).Nodup ∧ (∀ y ∈ P ++ Q ++ T.flatten, y ≠ x ∧ y ≠ inv x) ∧ ∀ w ∈ T, Cy (Rh v) w := by
    intro P Q T pu ct
    have p2 : (x :: inv x :: (P ++ Q ++ T.flatten)).Perm (x :: inv x :: v) := pu.trans o.pm
    have p3 := List.Perm.cons_inv (List.Perm.cons_inv p2)
    have nd := pu.nodup_iff.mpr U.nd
    obtain ⟨n1, n2⟩ := List.nodup_cons.mp nd
    obtain ⟨n3, n4⟩ := List.nodup_cons.mp n2
    have ne : ∀ y ∈ P ++ Q ++ T.flatten, y ≠ x ∧ y ≠ inv x := fun y hy => ⟨fun e => n1 (List.mem_cons_of_mem _ (e ▸ hy)), fun e => n3 (e ▸ hy)⟩
    refine ⟨p3, n4, ne, fun w hw => ⟨(ct w hw).ne, (ct w hw).nd, fun a b q => ?_⟩⟩
    have sub : ∀ y ∈ w, y ∈ P ++ Q ++ T.flatten := fun y hy => List.mem_append.mpr (.inr (List.mem_flatten.mpr ⟨w, hw, hy⟩))
    have m := nx_mem q
    exact o.rh U.nd (ne a (sub a m.1)).1 (ne a (sub a m.1)).2 (ne b (sub b m.2)).1 (ne b (sub b m.2)).2 (.inl ((ct w hw).st a b q))
  have bad1 : ¬ Rh u x (inv x) := fun q => not_self U hX q
  have bad2 : ¬ Rh u (inv x) x := fun q => by
    unfold Rh at q
    rw [inv_inv] at q
    exact not_self U hx q
  rcases dc_two h hx hX (inv_ne x) with ⟨P, Q, T, hl, hP, hQ, pu, ct⟩ | ⟨P, Q, T, hl, hP, hQ, pu, ct⟩
  · obtain ⟨pv, nd, ne, ct'⟩ := key P Q T pu ct
    have P0 : P ≠ [] := fun e => by subst e; exact bad1 hP.nil
    have Q0 : Q ≠ [] := fun e => by subst e; exact bad2 hQ.nil
    obtain ⟨p, P', M, z, e1, e2, r1, r2, r3⟩ := hP.ends P0
    obtain ⟨q, Q', N, y, f1, f2, s1, s2, s3⟩ := hQ.ends Q0
    have mP : ∀ a ∈ P, a ≠ x ∧ a ≠ inv x := fun a ha => ne a (by simp [ha])
    have mQ : ∀ a ∈ Q, a ≠ x ∧ a ≠ inv x := fun a ha => ne a (by simp [ha])
    have hz : z ∈ P := by rw [e2]; simp
    have hp : p ∈ P := by rw [e1]; simp
    have hy : y ∈ Q := by rw [f2]; simp
    have hq : q ∈ Q := by rw [f1]; simp
    have nPQ := (List.nodup_append.mp nd).1
    have cP : Cy (Rh v) P := cy_mk e1 e2 (List.nodup_append.mp nPQ).1 (fun c d k => o.rh U.nd (mP c (adj_mem k).1).1 (mP c (adj_mem k).1).2 (mP d (adj_mem k).2).1 (mP d (adj_mem k).2).2 (.inl (r3 c d k)))
      (o.rh U.nd (mP z hz).1 (mP z hz).2 (mP p hp).1 (mP p hp).2 (.inr (.inr (.inl ⟨r2, r1⟩))))
    have cQ : Cy (Rh v) Q := cy_mk f1 f2 (List.nodup_append.mp nPQ).2.1 (fun c d k => o.rh U.nd (mQ c (adj_mem k).1).1 (mQ c (adj_mem k).1).2 (mQ d (adj_mem k).2).1 (mQ d (adj_mem k).2).2 (.inl (s3 c d k)))
      (o.rh U.nd (mQ y hy).1 (mQ y hy).2 (mQ q hq).1 (mQ q hq).2 (.inr (.inl ⟨s2, s1⟩)))
    refine ⟨P :: Q :: T, ⟨fun w hw => ?_, by simpa using pv⟩, .inl (by rw [hl]; simp)⟩
    rcases List.mem_cons.mp hw with rfl | hw
    · exact cP
    · rcases List.mem_cons.mp hw with rfl | hw
      · exact cQ
      · exact ct' w hw
  · obtain ⟨pv, nd, ne, ct'⟩ := key P Q T pu ct
    have mP : ∀ a ∈ P, a ≠ x ∧ a ≠ inv x := fun a ha => ne a (by simp [ha])
    have mQ : ∀ a ∈ Q, a ≠ x ∧ a ≠ inv x := fun a ha => ne a (by simp [ha])
    have nPQ := (List.nodup_append.mp nd).1
    have iP : ∀ c d, Adj P c d → Rh u c d → Rh v c d := fun c d k r => o.rh U.nd (mP c (adj_mem k).1).1 (mP c (adj_mem k).1).2 (mP d (adj_mem k).2).1 (mP d (adj_mem k).2).2 (.inl r)
    have iQ : ∀ c d, Adj Q c d → Rh u c d → Rh v c d := fun c d k r => o.rh U.nd (mQ c (adj_mem k).1).1 (mQ c (adj_mem k).1).2 (mQ d (adj_mem k).2).1 (mQ d (adj_mem k).2).2 (.inl r)
    have cy : Cy (Rh v) (P ++ Q) := by
      by_cases P0 : P = []
      · subst P0
        have Q0 : Q ≠ [] := fun e => by
          subst e
          have := two_of U hP.nil hQ.nil
          omega
        obtain ⟨q, Q', N, y, f1, f2, s1, s2, s3⟩ := hQ.ends Q0
        have hy : y ∈ Q := by rw [f2]; simp
        have hq : q ∈ Q := by rw [f1]; simp
        exact cy_mk f1 f2 (List.nodup_append.mp nPQ).2.1 (fun c d k => iQ c d k (s3 c d k)) (o.rh U.nd (mQ y hy).1 (mQ y hy).2 (mQ q hq).1 (mQ q hq).2 (.inr (.inr (.inr (.inr ⟨s2, hP.nil, s1⟩)))))
      · obtain ⟨p, P', M, z, e1, e2, r1, r2, r3⟩ := hP.ends P0
        have hz : z ∈ P := by rw [e2]; simp
        have hp : p ∈ P := by rw [e1]; simp
        by_cases Q0 : Q = []
        · subst Q0
          rw [List.append_nil]
          exact cy_mk e1 e2 (List.nodup_append.mp nPQ).1 (fun c d k => iP c d k (r3 c d k)) (o.rh U.nd (mP z hz).1 (mP z hz).2 (mP p hp).1 (mP p hp).2 (.inr (.inr (.inr (.inl ⟨r2, hQ.nil, r1⟩)))))
        · obtain ⟨q, Q', N, y, f1, f2, s1, s2, s3⟩ := hQ.ends Q0
          have hy : y ∈ Q := by rw [f2]; simp
          have hq : q ∈ Q := by rw [f1]; simp
          refine cy_mk (v := p) (V' := P' ++ Q) (M := P ++ N) (z := y) (by rw [e1]; rfl) (by rw [f2]; simp) nPQ (fun c d k => ?_) (o.rh U.nd (mQ y hy).1 (mQ y hy).2 (mP p hp).1 (mP p hp).2 (.inr (.inr (.inl ⟨s2, r1⟩))))
          rcases (adj_app e2 f1 c d).mp k with k | ⟨rfl, rfl⟩ | k
          · exact iP c d k (r3 c d k)
          · exact o.rh U.nd (mP _ hz).1 (mP _ hz).2 (mQ _ hq).1 (mQ _ hq).2 (.inr (.inl ⟨r2, s1⟩))
          · exact iQ c d k (s3 c d k)
    refine ⟨(P ++ Q) :: T, ⟨fun w hw => ?_, by simpa using pv⟩, .inr (by rw [hl]; simp)⟩
    rcases List.mem_cons.mp hw with rfl | hw
    · exact cy
    · exact ct' w hw
/-- a surface's letters and holes -/
theorem par : ∀ (n : Nat) (u : List L), u.length ≤ n → Srf u → ∀ Ws, Dc (Rh u) u Ws → ∃ k, u.length + 2 = 2 * Ws.length + 4 * k := by
  intro n
  induction n with
  | zero =>
    intro u hl U
    have := U.pos
    omega
  | succ n ih =>
    intro u hl U Ws h
    obtain ⟨x, hx⟩ := List.exists_mem_of_ne_nil u U.ne
    have hX := U.iv x hx
    by_cases h2 : u.length ≤ 2
    · have fin : ∀ (P Q : List L) (T : List (List L)), (x :: inv x :: (P ++ Q ++ T.flatten)).Perm u → P = [] ∧ Q = [] ∧ T.flatten = [] := fun P Q T p => by
        have := p.length_eq
        simp only [List.length_cons, List.length_append] at this
        exact ⟨List.eq_nil_of_length_eq_zero (by omega), List.eq_nil_of_length_eq_zero (by omega), List.eq_nil_of_length_eq_zero (by omega)⟩
      rcases dc_two h hx hX (inv_ne x) with ⟨P, Q, T, hl, hP, hQ, pu, ct⟩ | ⟨P, Q, T, hl, hP, hQ, pu, ct⟩
      · obtain ⟨rfl, _, _⟩ := fin P Q T pu
        exact absurd hP.nil (not_self U hX)
      · obtain ⟨rfl, rfl, e⟩ := fin P Q T pu
        have : T = [] := by
          cases T with
          | nil => rfl
          | cons w T =>
            rw [List.flatten_cons] at e
            exact absurd (List.append_eq_nil_iff.mp e).1 (ct w (by simp)).ne
        subst this
        have := pu.length_eq
        simp at this hl
        exact ⟨0, by omega⟩
    · obtain ⟨v, o⟩ := out_ex U.nd hx hX (inv_ne x)
      obtain ⟨Vs, g, c⟩ := par_step U (by omega) hx o h
      have pl := o.pm.length_eq
      simp only [List.length_cons] at pl
      have nd := o.pm.nodup_iff.mp U.nd
      obtain ⟨n1, n2⟩ := List.nodup_cons.mp nd
      obtain ⟨n3, n4⟩ := List.nodup_cons.mp n2
      have V : Srf v := by
        refine ⟨fun e => by subst e; simp at pl; omega, n4, fun y hy => ?_, by have := U.le; omega⟩
        have hu : y ∈ u := o.pm.mem_iff.mpr (by simp [hy])
        have := o.pm.mem_iff.mp (U.iv y hu)
        rcases List.mem_cons.mp this with e | this
        · exact absurd hy (by rw [show y = inv x by rw [← e, inv_inv]]; exact n3)
        · rcases List.mem_cons.mp this with e | this
          · have : y = x := by rw [← inv_inv y, e, inv_inv]
            exact absurd hy (by rw [this]; exact fun q => n1 (List.mem_cons_of_mem _ q))
          · exact this
      obtain ⟨k, hk⟩ := ih v (by omega) V Vs g
      rcases c with c | c
      · exact ⟨k + 1, by omega⟩
      · exact ⟨k, by omega⟩
theorem hol_par {u : List L} (U : Srf u) : ∃ k, u.length + 2 = 2 * (hol u).length + 4 * k := par u.length u (Nat.le_refl _) U _ (hol_dc U)
end Wd
set_option Elab.async false
set_option linter.all false
set_option maxRecDepth 100000
/-! ### enumerate of a list, of a tuple -/
namespace PySem
open Sem (wp)
open AutoSeq1 (wpAny_loadPart')
section
variable {prog : Program} {w : World} {A : Around} {E : Value → Shared → Prop} {s : Shared}
end
end PySem
namespace L2
open PySem PySem.Spec PyProof.Rows Wd
/-- the items of a list, each with its number, a new tuple each -/
def Itel (K : PySem.W.Frag) (a : Addr) : It := ⟨fun i H => ∃ xs x, SqL K H a xs ∧ xs[i]? = some x,
  fun i H v H' => ∃ (T : Addr) (x : V), H T = none ∧ v = .ref T ∧ (∀ xs, SqL K H a xs → xs[i]? = some x) ∧ H' = upd H T (.tup [.int i, x]), fun i H => ∃ xs, SqL K H a xs ∧ xs.length ≤ i⟩
def Itet (K : PySem.W.Frag) (a : Addr) : It := ⟨fun i H => ∃ xs x, SqT K H a xs ∧ xs[i]? = some x,
  fun i H v H' => ∃ (T : Addr) (x : V), H T = none ∧ v = .ref T ∧ (∀ xs, SqT K H a xs → xs[i]? = some x) ∧ H' = upd H T (.tup [.int i, x]), fun i H => ∃ xs, SqT K H a xs ∧ xs.length ≤ i⟩
section
variable {X : Cx}
def iEnl (K : PySem.W.Frag) (ta : TA) : TI := fun σ H R => ta σ H fun vs H1 => ∃ a, vs = [.ref a] ∧ (∃ xs, SqL K H1 a xs) ∧ R (Itel K a) H1
def iEnt (K : PySem.W.Frag) (ta : TA) : TI := fun σ H R => ta σ H fun vs H1 => ∃ a, vs = [.ref a] ∧ (∃ xs, SqT K H1 a xs) ∧ R (Itet K a) H1
end
end L2
set_option Elab.async false
set_option linter.all false
set_option maxRecDepth 100000
/-! ### zip of two things that are drawn -/
namespace PySem
open Sem (wp)
structure Ap2 (z TO i1 i2 : Addr) (fp1 fp2 : List Addr) : Prop where
  z1 : z ∉ fp1
  z2 : z ∉ fp2
  o1 : TO ∉ fp1
  o2 : TO ∉ fp2
  i12 : i1 ∉ fp2
  i21 : i2 ∉ fp1
section
variable {prog : Program} {w : World} {A : Around} {E : Value → Shared → Prop} {s : Shared} {z TI TO i1 i2 : Addr} {k n1 n2 : Nat} {a b : Value} {fp1 fp2 : List Addr} {P1 P2 : Nat → Value → Prop} {S1 S2 : Nat → Heap → Prop}
end
end PySem
set_option Elab.async false
set_option linter.all false
set_option maxRecDepth 100000
/-! ### zip of a tuple and a list -/
namespace PySem
abbrev zt1 (h : Heap) (p : Addr) : Heap := h.push { cls := .type "tuple_iterator", data := .fields #[.ref p, .int 0 0] }
abbrev zt2 (h : Heap) (p q : Addr) : Heap := (zt1 h p).push { cls := .type "list_iterator", data := .fields #[.ref q, .int 0 0] }
abbrev zt3 (h : Heap) (p q : Addr) : Heap := (zt2 h p q).push { cls := .type "tuple", data := .seq #[.ref h.objs.size, .ref (zt1 h p).objs.size] }
abbrev zt4 (h : Heap) (p q : Addr) : Heap := (zt3 h p q).push { cls := .type "tuple", data := .seq #[.none, .none] }
abbrev zt5 (h : Heap) (p q : Addr) : Heap := (zt4 h p q).push { cls := .type "zip", data := .fields #[.none, .bool false, .bool false, .ref (zt2 h p q).objs.size, .ref (zt3 h p q).objs.size] }
end PySem
namespace L2
open PySem PySem.Spec PyProof.Rows Wd
/-- pairs of the items of a tuple and of a list -/
def Itzt (K : PySem.W.Frag) (p q : Addr) : It := ⟨fun i H => ∃ xs ys x y, SqT K H p xs ∧ SqL K H q ys ∧ xs[i]? = some x ∧ ys[i]? = some y,
  fun i H v H' => ∃ (T : Addr) (x y : V), H T = none ∧ v = .ref T ∧ (∀ xs, SqT K H p xs → xs[i]? = some x) ∧ (∀ ys, SqL K H q ys → ys[i]? = some y) ∧ H' = upd H T (.tup [x, y]),
  fun i H => ∃ xs ys, SqT K H p xs ∧ SqL K H q ys ∧ i = min xs.length ys.length⟩
section
variable {X : Cx}
def iZipTL (K : PySem.W.Frag) (ta : TA) : TI := fun σ H R => ta σ H fun vs H1 => ∃ p q, vs = [.ref p, .ref q] ∧ (∃ xs, SqT K H1 p xs) ∧ (∃ ys, SqL K H1 q ys) ∧ R (Itzt K p q) H1
end
end L2
set_option Elab.async false
set_option linter.all false
set_option maxRecDepth 100000
/-! ### zip of a text and a tuple -/
namespace PySem
abbrev zu1 (h : Heap) (x : Str) (t : Tok) : Heap := h.push { cls := .type "str_ascii_iterator", data := .fields #[.str x t, .int 0 0] }
abbrev zu2 (h : Heap) (x : Str) (t : Tok) (q : Addr) : Heap := (zu1 h x t).push { cls := .type "tuple_iterator", data := .fields #[.ref q, .int 0 0] }
abbrev zu3 (h : Heap) (x : Str) (t : Tok) (q : Addr) : Heap := (zu2 h x t q).push { cls := .type "tuple", data := .seq #[.ref h.objs.size, .ref (zu1 h x t).objs.size] }
abbrev zu4 (h : Heap) (x : Str) (t : Tok) (q : Addr) : Heap := (zu3 h x t q).push { cls := .type "tuple", data := .seq #[.none, .none] }
abbrev zu5 (h : Heap) (x : Str) (t : Tok) (q : Addr) : Heap := (zu4 h x t q).push { cls := .type "zip", data := .fields #[.none, .bool false, .bool false, .ref (zu2 h x t q).objs.size, .ref (zu3 h x t q).objs.size] }
end PySem
namespace L2
open PySem PySem.Spec PyProof.Rows Wd
/-- pairs of the signs of a text and the items of a tuple -/
def Itzu (K : PySem.W.Frag) (x : Str) (q : Addr) : It := ⟨fun i H => ∃ ys y, SqT K H q ys ∧ i < x.cps.size ∧ ys[i]? = some y,
  fun i H v H' => ∃ (T : Addr) (c : Nat) (y : V), H T = none ∧ v = .ref T ∧ x.cps[i]? = some c ∧ (∀ ys, SqT K H q ys → ys[i]? = some y) ∧ H' = upd H T (.tup [.str ⟨#[c]⟩, y]),
  fun i H => ∃ ys, SqT K H q ys ∧ i = min x.cps.size ys.length⟩
section
variable {X : Cx}
def iZipST (K : PySem.W.Frag) (ta : TA) : TI := fun σ H R => ta σ H fun vs H1 => ∃ x q, vs = [.str x, .ref q] ∧ x.cps.all (· < 128) = true ∧ (∃ ys, SqT K H1 q ys) ∧ R (Itzu K x q) H1
end
end L2
set_option Elab.async false
set_option linter.all false
set_option maxRecDepth 100000
namespace L2
open PySem PySem.Spec PyProof.Rows Wd
section
variable {X : Cx}
end
end L2
set_option linter.all false
/-! maps: words for letters -/
namespace Wd
/-- what a letter becomes -/
def img (ws : List (List L)) (x : L) : List L := if x.val < 6 then ws.getD x.val [] else bk (ws.getD (x.val - 6) [])
/-- what a word becomes, not yet reduced -/
def sub (ws : List (List L)) (u : List L) : List L := u.flatMap (img ws)
theorem inv_val (x : L) : (inv x).val = if x.val < 6 then x.val + 6 else x.val - 6 := by unfold inv; split <;> rfl
/-- one map, then another -/
def thenM (ws vs : List (List L)) : List (List L) := ws.map fun w => red (sub vs w)
/-- the letters themselves -/
def plainM (n : Nat) : List (List L) := (([0, 1, 2, 3, 4, 5] : List L).take n).map fun x => [x]
/-- letters of the first n -/
def InM (n : Nat) (u : List L) : Prop := ∀ x ∈ u, x.val % 6 < n
/-- a map of n letters, its words not longer than b -/
structure MapM (n b : Nat) (ws : List (List L)) : Prop where
  len : ws.length = n
  rd : ∀ w ∈ ws, red w = w
  ins : ∀ w ∈ ws, InM n w
  le : ∀ w ∈ ws, w.length ≤ b
end Wd
set_option Elab.async false
set_option linter.all false
set_option maxRecDepth 100000
namespace PySem
section
variable {prog : Program} {w : World} {A : Around} {E : Value → Shared → Prop}
end
end PySem
namespace L2
open PySem PySem.Spec PyProof.Rows Wd
section
variable {X : Cx} {pos : Pos}
/-- a, b, .. = a list -/
def gTupL (K : PySem.W.Frag) (n : Nat) (t : TGs) : TG := fun v σ H Q => ∃ a xs, v = .ref a ∧ SqL K H a xs ∧ xs.length = n ∧ t xs σ H Q
/-- data unlike data -/
def rNeD : R2 := fun x y H Q => ∃ da db, Dt H x da ∧ Dt H y db ∧ da.canLay0 = true ∧ db.canLay0 = true ∧ da.depth ≤ 10 ∧ Q (.bl (!PyData.eqv da db)) H
theorem op_ne_dat (hu : X.A.units + 64 < cLine) : OpR X (compareOp .NotEq) rNeD := by
  intro pins s σ H x y v u Q I rx ry h
  obtain ⟨da, db, ha, hb, la, lb, dp, q⟩ := h
  obtain ⟨as, ra⟩ := ha.reads I.hok rx
  obtain ⟨bs, rb⟩ := hb.reads I.hok ry
  exact EqBoolInt.of_rcne (SeqAt.rcNeAt_reads ra rb la lb (by omega)) ⟨.bl _, H, I, rfl, q⟩
end
theorem lay_toS (u : List L) : (PyData.str (toS u)).canLay0 = true := by
  unfold PyData.canLay0 PyData.strOk
  rw [← Array.all_toList, toS_cps, List.all_eq_true]
  intro c hc
  obtain ⟨x, _, rfl⟩ := List.mem_map.mp hc
  have := cp_lt x
  exact decide_eq_true (by omega)
theorem lay_words : ∀ ws : List (List L), PyData.canLayAll0 (ws.map fun u => .str (toS u)) = true
  | [] => rfl
  | u :: ws => by
    rw [List.map_cons, PyData.canLayAll0, lay_toS, lay_words ws]
    rfl
end L2
set_option Elab.async false
set_option linter.all false
set_option maxRecDepth 100000
set_option maxHeartbeats 0
namespace L2
open PySem PySem.Spec PyProof.Rows Wd
section
variable {X : Cx}
def rFind1 : V → List V → Hp → VK → Prop := fun x vs H Q => ∃ z y, x = .str z ∧ vs = [.str y] ∧ Q (.int (Txt.find z y)) H
def rIslower : V → List V → Hp → VK → Prop := fun x vs H Q => ∃ z, x = .str z ∧ vs = [] ∧ Q (.bl (Txt.islower z)) H
end
end L2
namespace L2
open PySem PySem.Spec PyProof.Rows Wd
theorem join_flat : ∀ ws : List (List L), Txt.join ("" : Str) (ws.map toS) = toS ws.flatten := by
  intro ws
  have e0 : ("" : Str) = Str.empty := by decide +kernel
  unfold Txt.join
  rw [StrLaws.glued_eq_join, e0]
  induction ws with
  | nil => rfl
  | cons x r ih =>
    cases r with
    | nil =>
      show toS x = _
      simp
    | cons y r =>
      show toS x ++ Str.empty ++ Str.join Str.empty ((y :: r).map toS) = _
      rw [ih, Str.append_empty, toS_append]
      rfl
end L2
namespace Kx
open PySem PySem.Spec PyProof.Rows L2 Wd
/-- a map at a place -/
structure MpAt (n b : Nat) (ws : List (List L)) (H : Hp) (p : Addr) : Prop where
  at_ : H p = some (.tup (ws.map tx))
  ok : MapM n b ws
def spMapped : Sp := fun vs H Q _ => ∃ (p : Addr) (u : List L) (n b : Nat) (ws : List (List L)), vs = [.ref p, tx u] ∧ MpAt n b ws H p ∧ n ≤ 6 ∧ InM n u ∧ u.length ≤ 5000 ∧ u.length * b ≤ 5000 ∧ b ≤ 5000 ∧ ∀ H', Same H H' → Q (tx (red (sub ws u))) H'
def spThen : Sp := fun vs H Q _ => ∃ (p q : Addr) (n a b : Nat) (ws us : List (List L)), vs = [.ref p, .ref q] ∧ MpAt n a ws H p ∧ MpAt n b us H q ∧ n ≤ 6 ∧ a ≤ 5000 ∧ a * b ≤ 5000 ∧ b ≤ 5000 ∧ ∀ (r : Addr) (H' : Hp), H r = none → Same H H' → MpAt n (a * b) (thenM ws us) H' r → Q (.ref r) H'
def spPlain : Sp := fun vs H Q _ => ∃ (n : Nat), vs = [.int (n : Int)] ∧ 1 ≤ n ∧ n ≤ 6 ∧ ∀ (r : Addr) (H' : Hp), H r = none → Same H H' → MpAt n 1 (plainM n) H' r → Q (.ref r) H'
def spSomeM : Sp := fun vs H Q _ => ∃ (d : Addr) (m n : Int), vs = [.ref d, .int m, .int n] ∧ Fd H d ∧ 1 ≤ m ∧ m ≤ 6 ∧ 0 ≤ n ∧ n ≤ 60 ∧ ∀ (u : List L) (H' : Hp), u.length ≤ n.toNat → InM m.toNat u → Fd H' d → SameB d H H' → Q (tx u) H'
end Kx
set_option Elab.async false
set_option linter.all false
set_option maxRecDepth 100000
set_option maxHeartbeats 0
namespace Wd
/-- the map that puts one letter ahead of an end -/
def putM (n : Nat) (e o : L) : List (List L) := (plainM n).set (e.val % 6) (if e.val < 6 then [o, e] else bk [o, e])
/-- the end beside the one at a place -/
def farOf (u : List L) (i : Nat) (sd : Int) : L := u.getD (((i : Int) + sd) % (u.length : Int)).toNat 0
/-- a row of ends of n letters -/
structure RowN (n : Nat) (u : List L) : Prop where
  len : u.length = 2 * n
  nd : u.Nodup
  ins : InM n u
end Wd
set_option Elab.async false
set_option linter.all false
set_option maxRecDepth 100000
set_option maxHeartbeats 0
namespace L2
open PySem PySem.Spec PyProof.Rows Wd
section
variable {X : Cx}
/-- data like data -/
def rEqD : R2 := fun x y H Q => ∃ da db, Dt H x da ∧ Dt H y db ∧ da.canLay0 = true ∧ db.canLay0 = true ∧ da.depth ≤ 10 ∧ Q (.bl (PyData.eqv da db)) H
end
end L2
namespace Kx
open PySem PySem.Spec PyProof.Rows L2 Wd
def spNb : Sp := fun vs H Q _ => ∃ (u : List L) (t : Addr) (i : Nat) (sd : Int), vs = [tx u, .ref t] ∧ H t = some (.tup [.int (i : Int), .int sd]) ∧ u ≠ [] ∧ u.length ≤ 100 ∧ Q (tx [farOf u i sd]) H
def spCan : Sp := fun vs H Q _ => ∃ (u : List L) (t : Addr) (i : Nat) (sd : Int) (e : L), vs = [tx u, .ref t] ∧ H t = some (.tup [.int (i : Int), .int sd]) ∧ u.length ≤ 100 ∧ u[i]? = some e ∧ ∀ H', Same H H' → Q (.bl (!decide (farOf u i sd = inv e))) H'
def spPut : Sp := fun vs H Q _ => ∃ (n : Nat) (e o : L), vs = [.int (n : Int), tx [e], tx [o]] ∧ 1 ≤ n ∧ n ≤ 6 ∧ e.val % 6 < n ∧ ∀ (r : Addr) (H' : Hp), H r = none → Same H H' → H' r = some (.tup ((putM n e o).map tx)) → Q (.ref r) H'
def spMaps : Sp := fun vs H Q _ => ∃ (u : List L) (t : Addr) (n i : Nat) (sd : Int) (e : L), vs = [tx u, .ref t] ∧ H t = some (.tup [.int (i : Int), .int sd]) ∧ RowN n u ∧ 1 ≤ n ∧ n ≤ 6 ∧ u[i]? = some e ∧ farOf u i sd ≠ inv e ∧
  ∀ (r a b : Addr) (H' : Hp), H r = none → Same H H' → H' r = some (.tup [.ref a, .ref b]) → H' a = some (.tup ((putM n e (farOf u i sd)).map tx)) → H' b = some (.tup ((putM n e (inv (farOf u i sd))).map tx)) → Q (.ref r) H'
end Kx
namespace L2
open PySem PySem.Spec PyProof.Rows Wd
section
variable {X : Cx}
end
end L2
set_option Elab.async false
set_option linter.all false
set_option maxRecDepth 100000
/-! ### min and max of a tuple of two ints -/
namespace L2
open PySem PySem.Spec PyProof.Rows
section
variable {X : Cx}
def nAt (i j : Int) (k : Nat) : Int := if k = 0 then i else j
end
end L2
set_option Elab.async false
set_option linter.all false
set_option maxRecDepth 100000
/-! ### sorted(a text), join of a tuple, a text or a text -/
namespace L2
open PySem PySem.Spec PyProof.Rows
section
variable {prog : Program} {w : World} {A : Around} {E : Value → Shared → Prop} {s : Shared}
theorem collect_text {Q : List Value → Shared → Prop} (hh : A.handled = none) (z : Str) (t : Tok) (hn : z.cps.size ≤ sizeLine)
    (k : ∀ (h' : Heap) (tk : Nat) (acc : Array Value), (∀ b o, s.heap.get? b = some o → h'.get? b = some o) → s.heap.objs.size < h'.objs.size → ItemsOf (SignAt z) acc z.cps.size → Q acc.toList { s with heap := h', toks := tk }) :
    wpAny (model prog w) A (collect (.str z t)) Q E s := by
  unfold collect
  refine (wpAny_bind (wpAny_runValue (codeAny_builtin F.entry_proto_collect ?_)))
  rw [Around.under_plainId F.plain_proto_collect _]
  show wpAny _ A.in1 (newList [] >>= fun q => again (.builtin "list.__iadd__" ⟨[q, .str z t], []⟩)) _ _ s
  refine (wpAny_bind (wpAny_newObj_type (wpAny_pure ⟨plainId_quiet F.plain_list_iadd _, codeAny_builtin F.entry_list_iadd ?_⟩)))
  rw [Around.under_plainId F.plain_list_iadd _]
  have hS : (s.heap.push { cls := .type "list", data := .seq ([] : List Value).toArray }).get? s.heap.objs.size = some { cls := .type "list", data := .seq #[] } := Heap.get?_push_size _ rfl
  show wpAny _ A.in1 (Builtin.List.listExtendWith (.ref s.heap.objs.size) (.str z t) (.ref s.heap.objs.size)) _ _ { s with heap := s.heap.push { cls := .type "list", data := .seq ([] : List Value).toArray } }
  refine wpAny_extend_str (R := fun r s' => match r with
    | .ok (.ret v) => wpAny (model prog w) A (match v with
      | .ref a => do
        match (← load a).data with
        | .seq xs _ => pure xs.toList
        | _ => unsupported "internal:collect"
      | _ => unsupported "internal:collect") Q E s'
    | .ok _ => False
    | .error e => E e s') (s := { s with heap := s.heap.push { cls := .type "list", data := .seq ([] : List Value).toArray } }) (hn := hn) hh z t s.heap.objs.size (.ref s.heap.objs.size) _ hS fun h' tk acc c' hk hS' hacc => ?_
  show wpAny _ A (load s.heap.objs.size >>= _) _ _ { s with heap := h', toks := tk }
  exact wpAny_bind (wpAny_load hS' (wpAny_pure (k h' tk acc (fun b o e => hk b o (Nat.ne_of_lt (Heap.lt_size e)) (Heap.get?_push_of_some _ e)) (Heap.lt_size hS') hacc)))
end
section
variable {X : Cx}
def signsT (z : Str) : List Str := z.cps.toList.map fun c => ⟨#[c]⟩
theorem signs_T (z : Str) : signs z = (signsT z).map V.str := by unfold signs signsT; rw [List.map_map]; rfl
theorem call_sorted_text (hc : X.calm = true) : CallR X (.builtin "sorted") (fun xs H Q => ∃ z, xs = [.str z] ∧ z.length < 64 ∧ ∀ p zs, H p = none → zs.Perm (signsT z) → sortedS zs = true → Q (.ref p) (upd H p (.lst (zs.map V.str)))) := by
  intro pins s σ H xs us Q I r h
  obtain ⟨z, rfl, hz, q⟩ := h
  obtain ⟨u, rfl, t, rfl⟩ := vals1 r
  have l16 : sizeLine = 16777216 := sizeLine_eq
  refine (Calls.call_function_entry kind_sorted plain_sorted entry_sorted (args_sorted1 _) ?_)
  unfold Builtin.«sorted»
  refine (wpAny_bind (m := checkCount "sorted" 1 1 _) (wpAny_pure ?_))
  refine wpAny_bind (collect_text (A := X.A.in1) (I.ok.hd hc) z t (by have : z.cps.size < 64 := hz; omega) fun h' tk acc hk hlt hI => ?_)
  have hv : Vals (signs z) acc.toList := vals_signs hI
  rw [signs_T] at hv
  have hS := strsAre_of hv
  have hlen : acc.toList.length = z.length := by
    rw [← hv.length, List.length_map]
    unfold signsT
    rw [List.length_map, Array.length_toList]
    rfl
  refine (wpAny_bind (wpAny_newList ?_))
  have hoL : (h'.push (seqObj "list" acc.toList.toArray 0)).get? h'.objs.size = some (seqObj "list" acc.toList.toArray 0) := Heap.get?_push_size _ rfl
  refine (wpAny_bind (wpAny_holding (wpAny_call_entry slot_list_sort ⟨_, hoL, rfl⟩ entry_list_sort (list_sort_treeK strKind_oneLt hoL hS.keysOf (fun v₁ v₂ rest e => keyKind_strs (by rw [← e]; exact hS)) (by omega) fun st' a1 a2 => ⟨_, rfl, ?_⟩) (args_list_sort _))))
  obtain ⟨zs, h1, h2, h3⟩ := sorted_out_str hS a1 a2
  refine wpAny_pure ⟨_, rfl, ?_⟩
  obtain ⟨e, he⟩ := sortedHeap_at (out := (arrOf st').map (·.2)) hoL
  have hzl : (zs.map V.str).length ≤ sizeLine := by
    rw [List.length_map, h2.length_eq]
    unfold signsT
    rw [List.length_map, Array.length_toList]
    have : z.cps.size < 64 := hz
    omega
  have old : ∀ b o, s.heap.get? b = some o → (sortedHeap (h'.push (seqObj "list" acc.toList.toArray 0)) h'.objs.size acc.toList ((arrOf st').map (·.2))).get? b = some o := fun b o eb => by
    have e1 := hk b o eb
    have e2 := Heap.lt_size e1
    rw [sortedHeap_old (Nat.ne_of_lt e2) (by rw [Heap.size_push]; exact Nat.lt_succ_of_lt e2)]
    exact Heap.get?_push_of_some _ e1
  have I2 : Inv X pins σ (upd H h'.objs.size (.lst (zs.map V.str))) { s with heap := sortedHeap (h'.push (seqObj "list" acc.toList.toArray 0)) h'.objs.size acc.toList ((arrOf st').map (·.2)), toks := tk } :=
    I.laid old (Nat.le_of_lt hlt) ⟨hzl, ((arrOf st').map (·.2)).toList, e, vals_of_strs h1, by rw [Array.toArray_toList]; exact he⟩
  exact ⟨.ref h'.objs.size, _, I2, rfl, q _ zs (I.hok.fresh (Nat.le_of_lt hlt)) h2 h3⟩
end
end L2
namespace L2
open PySem PySem.Spec PyProof.Rows
section
variable {X : Cx}
/-- sep.join(a tuple of texts) -/
def rJoinT (K : PySem.W.Frag) : V → List V → Hp → VK → Prop := fun x vs H Q => ∃ z p ys, x = .str z ∧ vs = [.ref p] ∧ SqT K H p (ys.map V.str) ∧ (ys.map (·.length)).sum + ys.length * z.length ≤ 16777216 ∧ Q (.str (Txt.join z ys)) H
end
end L2
namespace L2
open PySem PySem.Spec PyProof.Rows
section
variable {X : Cx}
/-- a text, or where it is void what comes behind -/
def tOrS (ta tb : TE) : TE := fun σ H Q => ta σ H fun x H1 => ∃ z, x = .str z ∧ z.length ≤ sizeLine ∧ (if ((z.length : Int) != 0) = true then Q (.str z) H1 else tb σ H1 Q)
end
end L2
set_option Elab.async false
set_option linter.all false
set_option maxRecDepth 100000
/-! ### a dict of the top read by a text, split, int and str of texts -/
namespace L2
open PySem PySem.Spec PyProof.Rows Wd
section
variable {X : Cx}
/-- x[e] of a dict of the top whose values are things of the top -/
def tKGetR (K : PySem.W.Frag) (a : Addr) (ti : TE) : TE := fun σ H Q => ti σ H fun y H1 => ∃ z b, y = .str z ∧ PySem.W.nsIn K a z = some (some (.ref b)) ∧ Q (.ref b) H1
def tKNot (K : PySem.W.Frag) (a : Addr) (to : TE) : TT := fun σ H Q => to σ H fun y H1 => ∃ (z : Str) (r : Option Value), y = .str z ∧ PySem.W.nsIn K a z = some r ∧ Q (!r.isSome) H1
/-- z.split(y) -/
def rSplit : V → List V → Hp → VK → Prop := fun x vs H Q => ∃ z y, x = .str z ∧ vs = [.str y] ∧ (y.length == 0) = false ∧ z.length < 1000000 ∧ (Txt.split z y).length < 1000000 ∧ ∀ p, H p = none → Q (.ref p) (upd H p (.lst ((Txt.split z y).map V.str)))
end
end L2
set_option Elab.async false
set_option linter.all false
set_option maxRecDepth 100000
set_option maxHeartbeats 0
namespace Kx
open PySem PySem.Spec PyProof.Rows L2 Wd
/-! ### what was joined, split again -/
def jn (yl : List Nat) : List (List Nat) → List Nat
  | [] => []
  | [p] => p
  | p :: q :: r => p ++ yl ++ jn yl (q :: r)
/-! ### steps and their words -/
inductive Stp where
  | out (n : Nat)
  | inn (n : Nat) (x : L)
  | rng (n : Nat) (u : List L) (m : Nat)
def Stp.Ok : Stp → Prop
  | .out n => n < 10000
  | .inn n _ => n < 10000
  | .rng n u m => n < 10000 ∧ u ≠ [] ∧ u.length ≤ 12 ∧ m < 10000
def Stp.hd : Stp → Str
  | .out _ => "out"
  | .inn _ _ => "in"
  | .rng _ _ _ => "ring"
def Stp.form : Stp → List Str
  | .out _ => ["number"]
  | .inn _ _ => ["number", "letter"]
  | .rng _ _ _ => ["number", "turn", "number"]
def Stp.args : Stp → List V
  | .out n => [.int n]
  | .inn n x => [.int n, tx [x]]
  | .rng n u m => [.int n, tx u, .int m]
def Stp.vs (s : Stp) : List V := .str s.hd :: s.args
/-- str of a value -/
def strV : V → Str
  | .int i => Str.ofString (toString i)
  | .str z => z
  | _ => ""
def Stp.ws (s : Stp) : List Str := s.vs.map strV
def Stp.text (s : Stp) : Str := Txt.join " " s.ws
def textOf : List Stp → Str
  | [] => "-"
  | s :: r => Txt.join "; " ((s :: r).map Stp.text)
def Gd (c : Nat) : Prop := (48 ≤ c ∧ c ≤ 57) ∨ 65 ≤ c
end Kx
namespace L2
open PySem PySem.Spec PyProof.Rows Wd
section
variable {X : Cx} {tg : Expr}
/-- over a list or a tuple -/
def iSq (K : PySem.W.Frag) (tl : TE) : TI := fun σ H R => tl σ H fun x H1 => ∃ a xs, x = .ref a ∧ ((SqL K H1 a xs ∧ R (Itl K a) H1) ∨ (SqT K H1 a xs ∧ R (Itt K a) H1))
/-- a tuple against () -/
def rNeTn (K : PySem.W.Frag) : R2 := fun x y H Q => ∃ a b xs, x = .ref a ∧ y = .ref b ∧ SqT K H a xs ∧ H b = some (.tup []) ∧ Q (.bl (!xs.isEmpty)) H
/-- two lists of texts -/
def rEqSs : R2 := fun x y H Q => ∃ (a b : Addr) (ys zs : List Str), x = .ref a ∧ y = .ref b ∧ H a = some (.lst (ys.map V.str)) ∧ H b = some (.lst (zs.map V.str)) ∧ ys.length = zs.length ∧ Q (.bl (decide (ys = zs))) H
end
end L2
namespace Kx
open PySem PySem.Spec PyProof.Rows L2 Wd
/-- steps that stand in the heap -/
inductive Sts (H : Hp) : List V → List Stp → Prop
  | nil : Sts H [] []
  | cons {a : Addr} {s : Stp} {vs : List V} {ss : List Stp} (h : H a = some (.tup s.vs)) (ok : s.Ok) (r : Sts H vs ss) : Sts H (.ref a :: vs) (s :: ss)
/-- data of steps -/
def dV : V → PyData
  | .int i => .int i
  | .str z => .str z
  | _ => .none
def Stp.dt (s : Stp) : PyData := .tuple (s.vs.map dV)
end Kx
set_option Elab.async false
set_option linter.all false
set_option maxRecDepth 100000
set_option maxHeartbeats 0
/-! ### the mathematics of the balance -/
namespace Wd
/-- a surface of k letters -/
structure SK (u : List L) (k : Nat) : Prop where
  pm : u.Perm (fam k)
  lo : 1 ≤ k
  hi : k ≤ 6
theorem SK.srf {u : List L} {k : Nat} (h : SK u k) : Srf u := srf_of h.lo h.hi h.pm
theorem fam_len {k : Nat} (h : k ≤ 6) : (fam k).length = 2 * k := (fam_ok ⟨k, by omega⟩).2.2
theorem SK.len {u : List L} {k : Nat} (h : SK u k) : u.length = 2 * k := by rw [h.pm.length_eq, fam_len h.hi]
theorem fam_mem : ∀ (k : Fin 7) (x : L), x ∈ fam k.val ↔ x.val % 6 < k.val := by decide
theorem SK.mem {u : List L} {k : Nat} (h : SK u k) (x : L) : x ∈ u ↔ x.val % 6 < k := by
  rw [h.pm.mem_iff]
  exact fam_mem ⟨k, by have := h.hi; omega⟩ x
theorem inv_mod : ∀ x : L, (inv x).val % 6 = x.val % 6 := by decide
/-! places -/
/-- how many places one goes round -/
def rfI (u : List L) (a b : L) : Int := ((u.idxOf b : Int) - (u.idxOf a : Int)) % (u.length : Int)
/-- whether one meets z ahead of x's back, going round from x -/
def ic (u : List L) (x z : L) : Int := if rfI u x z < rfI u x (inv x) then 1 else 0
def sd (u : List L) (x y : L) : Int := ic u x y - ic u x (inv y)
/-- four unlike ends -/
structure Four (u : List L) (x y : L) : Prop where
  mx : x ∈ u
  mX : inv x ∈ u
  my : y ∈ u
  mY : inv y ∈ u
  n1 : u.idxOf x ≠ u.idxOf (inv x)
  n2 : u.idxOf x ≠ u.idxOf y
  n3 : u.idxOf x ≠ u.idxOf (inv y)
  n4 : u.idxOf (inv x) ≠ u.idxOf y
  n5 : u.idxOf (inv x) ≠ u.idxOf (inv y)
  n6 : u.idxOf y ≠ u.idxOf (inv y)
/-! turned about, and begun elsewhere -/
/-- what the program tells of two letters' places -/
def psd (u : List L) (x y : L) : Int :=
  if (decide (min (u.idxOf x) (u.idxOf (inv x)) < u.idxOf y ∧ u.idxOf y < max (u.idxOf x) (u.idxOf (inv x))) != decide (min (u.idxOf x) (u.idxOf (inv x)) < u.idxOf (inv y) ∧ u.idxOf (inv y) < max (u.idxOf x) (u.idxOf (inv x)))) = true
  then (if rfI u x (inv y) < rfI u x y then -1 else 1) else 0
/-! sums -/
def sumN : Nat → (Nat → Int) → Int
  | 0, _ => 0
  | n + 1, f => sumN n f + f n
/-! the balance -/
def lt6 (j : Nat) : L := if h : j < 12 then ⟨j, h⟩ else 0
def dfi (w : List L) (x : L) : Int := ((w.count x : Nat) : Int) - ((w.count (inv x) : Nat) : Int)
def trm (u w1 w2 : List L) (x y : Nat) : Int := sd u (lt6 x) (lt6 y) * (dfi w1 (lt6 x) * dfi w2 (lt6 y) - dfi w1 (lt6 y) * dfi w2 (lt6 x))
def bal (u : List L) (k : Nat) (w1 w2 : List L) : Int := sumN k fun x => sumN (k - (x + 1)) fun j => trm u w1 w2 x (x + 1 + j)
def wgt (u : List L) (k : Nat) (w1 w2 : List L) : Int := sumN k fun x => sumN k fun y => if x = y then 0 else dfi w1 (lt6 x) * dfi w2 (lt6 y) * sd u (lt6 x) (lt6 y)
/-! words around holes -/
def tau (u : List L) (y l : L) : Int := if l = y ∨ l = inv y then 0 else ic u y (inv l) - ic u y l
def tsum (u : List L) (y : L) : List L → Int
  | [] => 0
  | l :: w => tau u y l + tsum u y w
def bg (u : List L) (y : L) (g : Nat) : Int := ic u y (u.getD g 0)
/-- gaps that were seen go together -/
def Whole (u : List L) (S : List Nat) : Prop := ∀ z, z < u.length → stepH u z ∈ S → z ∈ S
/-- a walk that began at g0, and is at g now -/
structure Way (u : List L) (g0 : Nat) (P : List Nat) (g : Nat) : Prop where
  ex : (P = [] ∧ g = g0) ∨ ∃ (Q : List Nat) (z : Nat), P = Q ++ [z] ∧ g = stepH u z ∧ P.head? = some g0 ∧ ∀ s ∈ P, s = g0 ∨ ∃ q ∈ Q, stepH u q = s
end Wd
set_option Elab.async false
set_option linter.all false
set_option maxRecDepth 100000
set_option maxHeartbeats 0
namespace L2
open PySem PySem.Spec PyProof.Rows
section
variable {X : Cx}
/-- two lists of texts, of any lengths -/
def rEqLs : R2 := fun x y H Q => ∃ (a b : Addr) (ys zs : List Str), x = .ref a ∧ y = .ref b ∧ H a = some (.lst (ys.map V.str)) ∧ H b = some (.lst (zs.map V.str)) ∧ Q (.bl (decide (ys = zs))) H
end
end L2
namespace Kx
open PySem PySem.Spec PyProof.Rows L2 Wd
/-! ### sorted texts -/
theorem rising_pw : ∀ (r : List Str) (x : Str), risingS x r = true → (x :: r).Pairwise fun a b => a.cps.toList ≤ b.cps.toList
  | [], x, _ => by simp
  | z :: r, x, h => by
    have l := least_rising (z :: r) x h
    unfold risingS at h
    rw [Bool.and_eq_true] at h
    exact List.Pairwise.cons (fun y hy => l.2 y (List.mem_cons_of_mem _ hy)) (rising_pw r z h.2)
theorem sorted_pw {l : List Str} (h : sortedS l = true) : l.Pairwise fun a b => a.cps.toList ≤ b.cps.toList := by
  cases l with
  | nil => exact .nil
  | cons x r => exact rising_pw r x h
theorem sorted_one {a b : List Str} (ha : sortedS a = true) (hb : sortedS b = true) (p : a.Perm b) : a = b :=
  List.Perm.eq_of_pairwise (fun x y _ _ h1 h2 => Str.ext' (Array.toList_inj.mp (List.le_antisymm h1 h2))) (sorted_pw ha) (sorted_pw hb) p
theorem signs_perm {x y : Str} : (signsT x).Perm (signsT y) ↔ x.cps.toList.Perm y.cps.toList := by
  unfold signsT
  constructor
  · intro h
    have := h.map (fun s : Str => s.cps.getD 0 0)
    rw [List.map_map, List.map_map] at this
    have e : ((fun s : Str => s.cps.getD 0 0) ∘ fun c => (⟨#[c]⟩ : Str)) = id := by funext c; rfl
    rw [e, List.map_id, List.map_id] at this
    exact this
  · intro h
    exact h.map _
/-! ### surfaces by their signs -/
/-- the ends of k letters -/
def ends (k : Nat) : List L := (List.range k).map lt6 ++ bk ((List.range k).map lt6)
def surfB (z : Str) : Bool := decide (2 ≤ z.length) && decide (z.length ≤ 12) && decide (z.cps.toList.Perm ((ends (z.length / 2)).map cp))
def surfV : V → Bool
  | .str z => surfB z
  | _ => false
/-! ### ways -/
def primB (u : List L) : Bool := (List.range u.length).all fun q => decide (q = 0) || !decide (rot u q = u)
def wayL (u : List L) : Bool := decide (1 ≤ u.length) && decide (u.length ≤ 30) && rndB u && primB u
def wayB (k : Nat) (z : Str) : Bool := match ofS z with
  | some u => isW (k : Int) z && wayL u
  | none => false
def wayV (k : Nat) : V → Bool
  | .str z => wayB k z
  | _ => false
end Kx
set_option Elab.async false
set_option linter.all false
set_option maxRecDepth 100000
/-! ### a tuple and a tuple that is not void -/
namespace L2
open PySem PySem.Spec PyProof.Rows
section
variable {prog : Program} {w : World} {A : Around} {E : Value → Shared → Prop} {s : Shared}
end
section
variable {X : Cx}
def rCatV (K : PySem.W.Frag) : R2 := fun x y H Q => ∃ a b xs ys, x = .ref a ∧ y = .ref b ∧ SqT K H a xs ∧ SqT K H b ys ∧ ys ≠ [] ∧ xs.length + ys.length ≤ sizeLine ∧ (xs = [] → Q (.ref b) H) ∧ ∀ p, H p = none → Q (.ref p) (upd H p (.tup (xs ++ ys)))
end
end L2
set_option Elab.async false
set_option linter.all false
set_option maxRecDepth 100000
/-! ### any slice of a tuple -/
namespace HT
open PySem PySem.Spec PyProof.Rows
section
variable {prog : Program} {w : World} {A : Around} {E : Value → Shared → Prop} {s : Shared}
end
end HT
namespace L2
open PySem PySem.Spec PyProof.Rows Wd
def rSlTE (K : PySem.W.Frag) : V → Option Int → Option Int → Hp → VK → Prop := fun x lo hi H Q => ∃ a xs, x = .ref a ∧ SqT K H a xs ∧ (cutV xs lo hi = xs → Q (.ref a) H) ∧ ∀ p, H p = none → Q (.ref p) (upd H p (.tup (cutV xs lo hi)))
end L2
set_option Elab.async false
set_option linter.all false
set_option maxRecDepth 100000
set_option maxHeartbeats 0
namespace L2
open PySem PySem.Spec PyProof.Rows Wd
section
variable {X : Cx}
/-- one tuple behind another, wherever it stands -/
def rCatU : R2 := fun x y H Q => ∃ a b xs ys, x = .ref a ∧ y = .ref b ∧ H a = some (.tup xs) ∧ H b = some (.tup ys) ∧ xs.length + ys.length ≤ sizeLine ∧ ∀ p H', Same H H' → H' p = some (.tup (xs ++ ys)) → Q (.ref p) H'
end
end L2
namespace L2
open PySem PySem.Spec PyProof.Rows Wd
/-- any slice of a tuple, wherever it stands -/
def rSlU : V → Option Int → Option Int → Hp → VK → Prop := fun x lo hi H Q => ∃ a xs, x = .ref a ∧ H a = some (.tup xs) ∧ ∀ p H', Same H H' → H' p = some (.tup (cutV xs lo hi)) → Q (.ref p) H'
mutual
theorem Dt.mono {H H' : Hp} (ok : ∀ b xs, H b = some (.lst xs) → H' b = some (.lst xs)) (ok2 : ∀ b xs, H b = some (.tup xs) → H' b = some (.tup xs)) : ∀ {v : V} {d : PyData}, Dt H v d → Dt H' v d
  | _, _, .non => .non
  | _, _, .bl b => .bl b
  | _, _, .int i => .int i
  | _, _, .str x => .str x
  | _, _, .lst e q => .lst (ok _ _ e) (Dts.mono ok ok2 q)
  | _, _, .tup e q => .tup (ok2 _ _ e) (Dts.mono ok ok2 q)
theorem Dts.mono {H H' : Hp} (ok : ∀ b xs, H b = some (.lst xs) → H' b = some (.lst xs)) (ok2 : ∀ b xs, H b = some (.tup xs) → H' b = some (.tup xs)) : ∀ {vs : List V} {ds : List PyData}, Dts H vs ds → Dts H' vs ds
  | _, _, .nil => .nil
  | _, _, .cons q qs => .cons (Dt.mono ok ok2 q) (Dts.mono ok ok2 qs)
end
/-- small data -/
structure Sm (d : PyData) : Prop where
  sh : d.showable = true
  nd : d.hasDict = false
  dp : d.depth ≤ 4
  lv : d.leavesShort 13 = true
  wt : d.weight ≤ 400
  nt : ∀ i, d = .int i → i.natAbs.log2 < 1920
/-- parts, each small data -/
def Prts (H : Hp) (xs : List V) : Prop := ∀ x ∈ xs, ∃ d, Dt H x d ∧ Sm d
end L2
namespace Kx
open PySem PySem.Spec PyProof.Rows L2 Wd
/-- a thing that may be shown: small, or a tuple or a list of small ones -/
inductive Bn (H : Hp) : V → PyData → Prop
  | one {x : V} {d : PyData} (h : Dt H x d) (S : Sm d) (nr : ∀ a, x ≠ .ref a) : Bn H x d
  | tup {a : Addr} {xs : List V} {ds : List PyData} (h : H a = some (.tup xs)) (p : Prts H xs) (q : Dts H xs ds) (S : ∀ d ∈ ds, Sm d) (hl : xs.length ≤ 20) (hd : ds.length = xs.length) : Bn H (.ref a) (.tuple ds)
  | lst {a : Addr} {xs : List V} {ds : List PyData} (h : H a = some (.lst xs)) (q : Dts H xs ds) (S : ∀ d ∈ ds, Sm d) (hl : xs.length ≤ 20) (hd : ds.length = xs.length) : Bn H (.ref a) (.list ds)
/-- a thing that may be a map of n letters, whether it is -/
def mpV (n : Nat) : V → Bool
  | .str z => isW (n : Int) z && (match ofS z with | some u => decide (red u = u) | none => false)
  | _ => false
inductive Tm (K : PySem.W.Frag) (H : Hp) : V → (Nat → Bool) → Prop
  | tup {a : Addr} {xs : List V} (h : H a = some (.tup xs)) (hx : ∀ y ∈ xs, Th K H y) (hl : xs.length ≤ 100) : Tm K H (.ref a) (fun n => decide (xs.length = n) && xs.all (mpV n))
  | oth {x : V} {n : String} (ty : TyOf K H x (.type n)) (e : PySem.W.kitOne K (.type n) (.type "tuple") = some false) : Tm K H x (fun _ => false)
def spIsMap (K : PySem.W.Frag) : Sp := fun vs H Q _ => ∃ (n : Nat) (x : V) (b : Nat → Bool), vs = [.int (n : Int), x] ∧ 1 ≤ n ∧ n ≤ 6 ∧ Tm K H x b ∧ ∀ H', Same H H' → Q (.bl (b n)) H'
end Kx

set_option Elab.async false
set_option linter.all false
namespace Kx
open PySem PySem.Spec PyProof.Rows L2 Wd
theorem b_bool : bootBuiltins "bool" = some (.type "bool") := by kernel_rfl
end Kx
set_option Elab.async false
set_option linter.all false
set_option maxRecDepth 100000
set_option maxHeartbeats 0
namespace L2
open PySem PySem.Spec PyProof.Rows Wd
section
variable {X : Cx}
def rCountB (K : PySem.W.Frag) : V → List V → Hp → VK → Prop := fun x vs H Q => ∃ (l : Addr) (bs : List Bool) (b : Bool), x = .ref l ∧ vs = [.bl b] ∧ H l = some (.lst (bs.map V.bl)) ∧ Q (.int ((bs.countP (· == b) : Nat) : Int)) H
def isB (b : Bool) : Value → Bool
  | .bool a => a == b
  | _ => false
end
end L2
set_option Elab.async false
set_option linter.all false
set_option maxRecDepth 100000
set_option maxHeartbeats 0
namespace Wd
theorem rt_rh {A B : List L} (x y : L) : Rh (B ++ A) x y ↔ Rh (A ++ B) x y := nx_rot _ _ _ _
theorem Srf.rot {A B : List L} (U : Srf (A ++ B)) : Srf (B ++ A) := by
  refine ⟨fun e => U.ne ?_, nd_rot U.nd, fun x hx => ?_, by have := U.le; simp only [List.length_append] at this ⊢; omega⟩
  · have := List.append_eq_nil_iff.mp e
    rw [this.1, this.2]
    rfl
  · have := U.iv x (List.perm_append_comm.mem_iff.mp hx)
    exact List.perm_append_comm.mem_iff.mp this
theorem Srf.rev {u : List L} (U : Srf u) : Srf u.reverse := ⟨by simpa using U.ne, (List.reverse_perm u).nodup_iff.mpr U.nd, fun x hx => by rw [List.mem_reverse] at hx ⊢; exact U.iv x hx, by rw [List.length_reverse]; exact U.le⟩
theorem dc_rot {A B : List L} (U : Srf (A ++ B)) : Dc (Rh (A ++ B)) (A ++ B) (hol (B ++ A)) := by
  have h := hol_dc U.rot
  exact ⟨fun w hw => ⟨(h.cy w hw).ne, (h.cy w hw).nd, fun x y n => (rt_rh x y).mp ((h.cy w hw).st x y n)⟩, h.pm.trans List.perm_append_comm⟩
theorem inv_inj {x y : L} (h : inv x = inv y) : x = y := by rw [← inv_inv x, h, inv_inv]
theorem bk_nx {w : List L} {x y : L} (h : Nx (bk w) x y) : ∃ a b, Nx w a b ∧ x = inv b ∧ y = inv a := by
  have h := nx_rev h
  unfold bk at h
  rw [List.reverse_reverse] at h
  obtain ⟨a, b, n, e1, e2⟩ := nx_map inv h
  exact ⟨a, b, n, e2, e1⟩
theorem dc_rev {u : List L} (U : Srf u) : Dc (Rh u.reverse) u.reverse ((hol u).map bk) := by
  have h := hol_dc U
  refine ⟨fun w hw => ?_, ?_⟩
  · obtain ⟨v, hv, rfl⟩ := List.mem_map.mp hw
    have c := h.cy v hv
    refine ⟨fun e => c.ne ?_, ?_, fun x y n => ?_⟩
    · rw [← bk_bk v, e]
      rfl
    · unfold bk
      exact (List.reverse_perm _).nodup_iff.mpr (nd_map _ c.nd fun x _ y _ e => inv_inj e)
    · obtain ⟨a, b, n', rfl, rfl⟩ := bk_nx n
      have := c.st a b n'
      unfold Rh at this ⊢
      rw [inv_inv]
      exact nx_rev this
  · have e : ((hol u).map bk).flatten.Perm ((hol u).flatten.map inv) := by
      generalize hol u = Ws
      induction Ws with
      | nil => exact .refl _
      | cons w T ih =>
        rw [List.map_cons, List.flatten_cons, List.flatten_cons, List.map_append]
        exact List.Perm.append (List.reverse_perm _) ih
    refine e.trans ((h.pm.map inv).trans ?_)
    refine List.Perm.trans ?_ (List.reverse_perm u).symm
    refine pm_nd (nd_map _ U.nd fun x _ y _ e => inv_inj e) U.nd fun x => ?_
    constructor
    · intro hx
      obtain ⟨y, hy, rfl⟩ := List.mem_map.mp hx
      exact U.iv y hy
    · intro hx
      exact List.mem_map.mpr ⟨inv x, U.iv x hx, inv_inv x⟩
/-- other names -/
structure Ren (u : List L) (f : L → L) : Prop where
  iv : ∀ x, f (inv x) = inv (f x)
  inj : ∀ x ∈ u, ∀ y ∈ u, f x = f y → x = y
theorem Ren.srf {u : List L} {f : L → L} (R : Ren u f) (U : Srf u) : Srf (u.map f) := by
  refine ⟨by simpa using U.ne, nd_map f U.nd R.inj, fun x hx => ?_, by rw [List.length_map]; exact U.le⟩
  obtain ⟨y, hy, rfl⟩ := List.mem_map.mp hx
  exact List.mem_map.mpr ⟨inv y, U.iv y hy, R.iv y⟩
theorem dc_ren {u : List L} {f : L → L} (R : Ren u f) (U : Srf u) : Dc (Rh (u.map f)) (u.map f) ((hol u).map (List.map f)) := by
  have h := hol_dc U
  refine ⟨fun w hw => ?_, ?_⟩
  · obtain ⟨v, hv, rfl⟩ := List.mem_map.mp hw
    have c := h.cy v hv
    have sub : ∀ x ∈ v, x ∈ u := fun x hx => h.pm.mem_iff.mp (List.mem_flatten.mpr ⟨v, hv, hx⟩)
    refine ⟨by simpa using c.ne, nd_map f c.nd fun x hx y hy => R.inj x (sub x hx) y (sub y hy), fun x y n => ?_⟩
    obtain ⟨a, b, n', rfl, rfl⟩ := nx_map f n
    have := c.st a b n'
    unfold Rh at this ⊢
    rw [← R.iv]
    exact map_nx f this
  · rw [← List.map_flatten]
    exact h.pm.map f
/-- other names by a list -/
def nm (N : List L) (x : L) : L := if x.val < 6 then N.getD x.val 0 else inv (N.getD (x.val - 6) 0)
theorem nm_inv (N : List L) (x : L) : nm N (inv x) = inv (nm N x) := by
  unfold nm
  have e := inv_val x
  have := x.isLt
  by_cases h : x.val < 6
  · rw [if_pos h] at e
    rw [if_pos h, if_neg (by omega), e, Nat.add_sub_cancel]
  · rw [if_neg h] at e
    rw [if_neg h, if_pos (by omega), e, inv_inv]
structure Nm (N : List L) (k : Nat) : Prop where
  pm : (N.map fun x : L => x.val % 6).Perm (List.range k)
  hi : k ≤ 6
theorem Nm.len {N : List L} {k : Nat} (h : Nm N k) : N.length = k := by
  have := h.pm.length_eq
  simpa using this
theorem nm_mod (N : List L) (x : L) : (nm N x).val % 6 = (N.getD (x.val % 6) 0).val % 6 := by
  unfold nm
  have := x.isLt
  by_cases h : x.val < 6
  · rw [if_pos h, Nat.mod_eq_of_lt h]
  · rw [if_neg h, inv_mod, show x.val % 6 = x.val - 6 by omega]
theorem same_or {x y : L} (h : x.val % 6 = y.val % 6) : x = y ∨ x = inv y := by
  have q : ∀ x y : L, x.val % 6 = y.val % 6 → x = y ∨ x = inv y := by decide
  exact q x y h
theorem Nm.ren {N : List L} {k : Nat} (h : Nm N k) {u : List L} (hu : ∀ x ∈ u, x.val % 6 < k) : Ren u (nm N) := by
  refine ⟨nm_inv N, fun x hx y hy e => ?_⟩
  have e2 : (nm N x).val % 6 = (nm N y).val % 6 := by rw [e]
  rw [nm_mod, nm_mod] at e2
  have hl := h.len
  have hx' := hu x hx
  have hy' := hu y hy
  have nd : (N.map fun x : L => x.val % 6).Nodup := h.pm.nodup_iff.mpr List.nodup_range
  have g : ∀ i, i < k → (N.map fun x : L => x.val % 6)[i]? = some ((N.getD i 0).val % 6) := fun i hi => by
    rw [List.getElem?_map, List.getElem?_eq_getElem (by omega), List.getD_eq_getElem?_getD, List.getElem?_eq_getElem (by omega)]
    rfl
  have g1 := g _ hx'
  have g2 := g _ hy'
  rw [e2] at g1
  have hm : x.val % 6 = y.val % 6 := by
    obtain ⟨hi, e1⟩ := List.getElem?_eq_some_iff.mp g1
    obtain ⟨hj, e2⟩ := List.getElem?_eq_some_iff.mp g2
    have p := List.pairwise_iff_getElem.mp nd
    rcases Nat.lt_trichotomy (x.val % 6) (y.val % 6) with h | h | h
    · exact absurd (e1.trans e2.symm) (p _ _ hi hj h)
    · exact h
    · exact absurd (e2.trans e1.symm) (p _ _ hj hi h)
  rcases same_or hm with h | h
  · exact h
  · rw [h, nm_inv] at e
    exact absurd e (inv_ne _)
end Wd
namespace L2
open PySem PySem.Spec PyProof.Rows Wd
theorem perm_map_ex {α β : Type} (f : α → β) {zs ys : List β} (p : ys.Perm zs) : ∀ W : List α, ys = W.map f → ∃ V : List α, V.Perm W ∧ zs = V.map f := by
  induction p with
  | nil =>
    intro W e
    exact ⟨W, .refl _, e⟩
  | cons x _ ih =>
    intro W e
    cases W with
    | nil => cases e
    | cons w W =>
      obtain ⟨e1, e2⟩ := List.cons.inj e
      obtain ⟨V, h1, h2⟩ := ih W e2
      exact ⟨w :: V, h1.cons w, by rw [h2, e1]; rfl⟩
  | swap x y l =>
    intro W e
    match W, e with
    | a :: b :: W, e =>
      obtain ⟨e1, e2⟩ := List.cons.inj e
      obtain ⟨e2, e3⟩ := List.cons.inj e2
      exact ⟨b :: a :: W, List.Perm.swap a b W, by rw [e1, e2, e3]; rfl⟩
  | trans _ _ ih1 ih2 =>
    intro W e
    obtain ⟨V, h1, h2⟩ := ih1 W e
    obtain ⟨V2, h3, h4⟩ := ih2 V h2
    exact ⟨V2, h3.trans h1, h4⟩
section
variable {X : Cx}
theorem call_sorted_words : CallR X (.builtin "sorted") (fun xs H Q => ∃ (l : Addr) (W : List (List L)), xs = [.ref l] ∧ SqL X.K H l (W.map tx) ∧ W.length < 64 ∧ ∀ (p : Addr) (V : List (List L)), H p = none → V.Perm W → sortedS (V.map toS) = true → Q (.ref p) (upd H p (.lst (V.map tx)))) := by
  intro pins s σ H xs us Q I r h
  obtain ⟨l, W, rfl, hq, h64, q⟩ := h
  have ew : W.map tx = (W.map toS).map V.str := by rw [List.map_map]; rfl
  rw [ew] at hq
  obtain ⟨u, rfl, ru⟩ := vals1 r
  cases ru
  obtain ⟨its, rv, pl, hz⟩ := I.list hq
  have hS := strsAre_of rv
  have hlen : its.length = (W.map toS).length := by rw [← rv.length, List.length_map]
  rw [List.length_map] at hlen
  refine sorted_strs pl.isList hS (by omega) fun out zs hO hp hs => ?_
  obtain ⟨e, he⟩ := sortedAll_at s.heap its out
  have hv : Vals (zs.map V.str) out.toList := vals_of_strs hO
  have I2 : Inv X pins σ (upd H (s.heap.objs.size + 1) (.lst (zs.map V.str))) { s with heap := sortedAll s.heap its out, toks := s.toks } :=
    I.laid (fun b o e => sortedAll_old e) (Nat.le_succ _) ⟨by rw [List.length_map, hp.length_eq]; rw [List.length_map] at hz; exact hz, out.toList, e, hv, by simpa [seqObj] using he⟩
  obtain ⟨V, h1, h2⟩ := perm_map_ex toS hp.symm W rfl
  subst h2
  have q := q (s.heap.objs.size + 1) V (I.hok.fresh (Nat.le_succ _)) h1 hs
  have ev : V.map tx = (V.map toS).map L2.V.str := by rw [List.map_map]; rfl
  rw [ev] at q
  exact ⟨.ref (s.heap.objs.size + 1), _, I2, rfl, q⟩
end
end L2
namespace Kx
open PySem PySem.Spec PyProof.Rows L2 Wd
theorem lw_ex (w : List L) : ∃ v, Least (toS v) ((rots w).map toS) := by
  obtain ⟨m, h⟩ := least_is ((rots w).map toS) (by unfold rots; simp)
  obtain ⟨v, _, rfl⟩ := List.mem_map.mp h.1
  exact ⟨v, h⟩
/-- the least turn -/
noncomputable def lw (w : List L) : List L := Classical.choose (lw_ex w)
theorem lw_is (w : List L) : Least (toS (lw w)) ((rots w).map toS) := Classical.choose_spec (lw_ex w)
theorem lw_rt {m p : List L} (h : Rt m p) : lw m = lw p := toS_inj ((least_rt (lw_is m) (lw_is p)).mpr h)
/-- one row of turns -/
theorem up_one {R : L → L → Prop} (hR : Fnl R) {u : List L} {Ws Vs A B : List (List L)} (h : Dc R u Ws) (g : Dc R u Vs) (a : A.Perm (Ws.map lw)) (b : B.Perm (Vs.map lw)) (sa : sortedS (A.map toS) = true) (sb : sortedS (B.map toS) = true) : A = B := by
  have p := dc_map hR lw (fun w v r => lw_rt r.rt) Ws Vs u h g
  have := sorted_one sa sb ((a.trans (p.trans b.symm)).map toS)
  exact (List.map_inj_right (fun _ _ e => toS_inj e)).mp this
def spLeastN : Sp := fun vs H Q _ => ∃ w, vs = [tx w] ∧ w ≠ [] ∧ w.length ≤ 2000 ∧ ∀ H', Same H H' → Q (tx (lw w)) H'
def spUp : Sp := fun vs H Q _ => ∃ (l : Addr) (W : List (List L)), vs = [.ref l] ∧ H l = some (.lst (W.map tx)) ∧ W.length < 64 ∧ (∀ w ∈ W, w ≠ [] ∧ w.length ≤ 2000) ∧ ∀ (p : Addr) (V : List (List L)) (H' : Hp), H p = none → H' p = some (.lst (V.map tx)) → V.Perm (W.map lw) → sortedS (V.map toS) = true → Same H H' → Q (.ref p) H'
/-- names at a -/
structure NmAt (H : Hp) (a : Addr) (N : List L) (j : Nat) : Prop where
  ex : ∃ kvs : List (Key × V), H a = some (.dK kvs) ∧ kvs.length ≤ 2 * j ∧ ∀ x : L, x.val % 6 < j → valV kvs (Sum.inr (toS [x])) = some (tx [nm N x])
theorem NmAt.at_ {H H' : Hp} {a : Addr} {N : List L} {j : Nat} (h : NmAt H a N j) (e : ∀ o, H a = some o → H' a = some o) : NmAt H' a N j := by
  obtain ⟨kvs, h1, h2, h3⟩ := h.ex
  exact ⟨kvs, e _ h1, h2, h3⟩
theorem NmAt.same {H H' : Hp} {a : Addr} {N : List L} {j : Nat} (h : NmAt H a N j) (s : Same H H') : NmAt H' a N j := h.at_ fun o e => s _ _ e
def spNames : Sp := fun vs H Q _ => ∃ (d c : Addr) (k : Nat), vs = [.ref d, .int (k : Int)] ∧ Tp H d c ∧ 1 ≤ k ∧ k ≤ 6 ∧ ∀ (a : Addr) (H' : Hp) (N : List L), H a = none → Nm N k → NmAt H' a N k → Tp H' d c → SameB d H H' → Q (.ref a) H'
def spNamed : Sp := fun vs H Q _ => ∃ (a : Addr) (w N : List L) (k : Nat), vs = [.ref a, tx w] ∧ NmAt H a N k ∧ (∀ x ∈ w, x.val % 6 < k) ∧ w.length ≤ 2000 ∧ ∀ H', Same H H' → Q (tx (w.map (nm N))) H'
def spRight32 : Sp := fun vs H Q _ => ∃ (u : List L) (l : Addr), vs = [tx u, .ref l] ∧ Srf u ∧ H l = some (.lst ((hol u).map tx)) ∧ ∀ H', Same H H' → Q (.bl true) H'
end Kx
set_option Elab.async false
set_option linter.all false
set_option maxRecDepth 100000
set_option maxHeartbeats 0
namespace Kx
open PySem PySem.Spec PyProof.Rows L2 Wd
def top (i : Nat) : Stmt := PySem.Challenge.pw_ringwords_k32_whole_handles_by_holes.main.body.getD i (.Pass ⟨0, 0, 0, 0⟩)
end Kx
set_option Elab.async false
set_option linter.all false
set_option maxRecDepth 100000
set_option maxHeartbeats 0
namespace Kx
open PySem PySem.Spec PyProof.Rows L2 Wd
section
variable {P : Program} {w : World} {K : PySem.W.Frag} {mg : Str → Option Value} {base : Heap} {aB : Addr}
abbrev s_tape : Stmt := top 8
theorem sc_tape : FnScope ["_law_script"] ["_law_script"] (defScope s_tape) := ⟨rfl, rfl, rfl, by decide +kernel, rfl, by decide +kernel, by decide +kernel⟩
theorem c_tape (D : Df K mg "_law_tape" s_tape) (T : Bt K w mg aB) : Fnc P w K mg base "_law_tape" ["_law_script"] 1 (spTape K) := by
  have sc := sc_tape
  refine D.ok sc (fun _ _ _ _ _ _ us hl => match us, hl with | [_], _ => rfl) (fun vs H Q E h => ?_) (fun f cdv A outer s H vs Q E hr h => ?_)
  · obtain ⟨a, ns, rfl, _⟩ := h
    rfl
  · obtain ⟨a, ns, rfl, hS, hlen, k⟩ := h
    refine ⟨_, (@pss_one _ _ _ (@ps_ret _ _ _ _ (@pe_lst _ _ _ _ (@pa_cons _ _ _ _ _ (@pe_callTy _ _ _ _ _ _ _ _ _ call_list_of (by rfl) T.list b_list (@pa_cons _ _ _ _ _ (@pe_slice _ _ _ _ _ _ _ _ _ _ sl_list (pv 0) po_none (@po_some _ _ _ pe_int)) pa_nil (by rfl)) (by decide) (by decide) (by rfl) (by rfl)) (@pa_cons _ _ _ _ _ pe_int (@pa_cons _ _ _ _ _ pe_int (@pa_cons _ _ _ _ _ pe_int pa_nil (by rfl)) (by rfl)) (by rfl)) (by rfl))))), ?_⟩
    refine ⟨_, rfl, _, rfl, a, _, rfl, hS, fun q1 hq1 => ?_⟩
    rw [cut63 hlen]
    have s2 : Same H (upd H q1 (.lst (ns.map V.int))) := Same.new hq1
    have l2 : (upd H q1 (.lst (ns.map V.int))) q1 = some (.lst (ns.map V.int)) := upd_same
    generalize upd H q1 (.lst (ns.map V.int)) = H2 at s2 l2 ⊢
    refine ⟨q1, _, rfl, .inl (SqL.of l2), fun q2 hq2 => ?_⟩
    have s3 : Same H2 (upd H2 q2 (.lst (ns.map V.int))) := Same.new hq2
    have l3 : (upd H2 q2 (.lst (ns.map V.int))) q2 = some (.lst (ns.map V.int)) := upd_same
    generalize upd H2 q2 (.lst (ns.map V.int)) = H3 at s3 l3 ⊢
    refine ⟨(by show 4 ≤ sizeLine; decide), fun d hd => ?_⟩
    have n1 := none_of s2 hq2
    have n0 := none_of s2 (none_of s3 hd)
    exact k d q2 _ n0 n1 ⟨0, 0, 0, ns, upd_same, (Same.new hd) _ _ l3, ne_of_none l3 hd, hlen⟩ ((s2.trans s3).trans (Same.new hd))
end
section
variable {P : Program} {w : World} {K : PySem.W.Frag} {mg : Str → Option Value} {base : Heap} {aB : Addr}
abbrev s_draw : Stmt := top 9
theorem sc_draw : FnScope ["_law_tape_here", "_law_many", "_law_spot", "_law_cell", "_law_mixed", "_law_found"] ["_law_tape_here", "_law_many"] (defScope s_draw) := ⟨rfl, rfl, rfl, by decide +kernel, rfl, by decide +kernel, by decide +kernel⟩
theorem c_draw (D : Df K mg "_law_draw" s_draw) (T : Bt K w mg aB) : Fnc P w K mg base "_law_draw" ["_law_tape_here", "_law_many"] 1 spTDraw := by
  have sc := sc_draw
  refine D.ok sc (fun _ _ _ _ _ _ us hl => match us, hl with | [_, _], _ => rfl) (fun vs H Q E h => ?_) (fun f cdv A outer s H vs Q E hr h => ?_)
  · obtain ⟨d, c, m, rfl, _⟩ := h
    rfl
  · obtain ⟨d, c, m, rfl, F, m0, m1, k⟩ := h
    have hu := hu_of hr
    refine ⟨_, (@pss_cons _ _ _ _ _ (@ps_asg _ _ _ _ _ _ (@pe_op _ _ _ _ _ _ _ _ op_add (@pe_ix _ _ _ _ _ _ _ ix_list (pv 0) pe_int (fun _ _ => rfl)) pe_int) (@pg_sub _ _ _ _ _ _ _ (pv 0) pe_int set_list (by intro _ ; rfl)) (by rfl) (by rfl) (by rfl)) (@pss_cons _ _ _ _ _ (@ps_if _ _ _ _ _ _ _ _ (@pt_cmpR _ _ _ _ _ _ _ _ op_eq (@pe_ix _ _ _ _ _ _ _ ix_list (pv 0) pe_int (fun _ _ => rfl)) pe_int (nomark _)) (@pss_cons _ _ _ _ _ (@ps_set _ _ (2) _ _ _ _ sc.nd rfl (Or.inl rfl) (@pe_ix _ _ _ _ _ _ _ ix_list (pv 0) pe_int (fun _ _ => rfl)) (by rfl) (by first | exact .inl rfl | exact .inr rfl | assumption)) (@pss_cons _ _ _ _ _ (@ps_asg _ _ _ _ _ _ (@pe_op _ _ _ _ _ _ _ _ op_add (pv 2) pe_int) (@pg_sub _ _ _ _ _ _ _ (pv 0) pe_int set_list (by intro _ ; rfl)) (by rfl) (by rfl) (by rfl)) (@pss_cons _ _ _ _ _ (@ps_set _ _ (3) _ _ _ _ sc.nd rfl (Or.inl rfl) pe_int (by rfl) (by first | exact .inl rfl | exact .inr rfl | assumption)) (@pss_cons _ _ _ _ _ (@ps_if _ _ _ _ _ _ _ _ (@pt_cmpR _ _ _ _ _ _ _ _ op_gt (@pe_callB _ _ _ _ _ _ _ _ _ call_len_seq (by rfl) T.len PySem.boot_len (@pa_cons _ _ _ _ _ (@pe_ix _ _ _ _ _ _ _ ix_list (pv 0) pe_int (fun _ _ => rfl)) pa_nil (by rfl)) (by decide) (by decide) (by rfl) (by rfl)) pe_int (nomark _)) (@pss_one _ _ _ (@ps_set _ _ (3) _ _ _ _ sc.nd rfl (Or.inl rfl) (@pe_ix _ _ _ _ _ _ _ ix_list (@pe_ix _ _ _ _ _ _ _ ix_list (pv 0) pe_int (fun _ _ => rfl)) (@pe_op _ _ _ _ _ _ _ _ op_mod (pv 2) (@pe_callB _ _ _ _ _ _ _ _ _ call_len_seq (by rfl) T.len PySem.boot_len (@pa_cons _ _ _ _ _ (@pe_ix _ _ _ _ _ _ _ ix_list (pv 0) pe_int (fun _ _ => rfl)) pa_nil (by rfl)) (by decide) (by decide) (by rfl) (by rfl))) (fun _ _ => rfl)) (by rfl) (by first | exact .inl rfl | exact .inr rfl | assumption))) pss_nil) (@pss_cons _ _ _ _ _ (@ps_if _ _ _ _ _ _ _ _ (@PW.pt _ _ _ (@pw_or _ _ _ _ _ _ _ (@pt_cmpR _ _ _ _ _ _ _ _ op_lt (pv 3) (@pe_op _ _ _ _ _ _ _ _ op_pow pe_int pe_int) (nomark _)) (@pw_or1 _ _ _ _ (@pt_cmpR _ _ _ _ _ _ _ _ op_ge (pv 2) (@pe_callB _ _ _ _ _ _ _ _ _ call_len_seq (by rfl) T.len PySem.boot_len (@pa_cons _ _ _ _ _ (@pe_ix _ _ _ _ _ _ _ ix_list (pv 0) pe_int (fun _ _ => rfl)) pa_nil (by rfl)) (by decide) (by decide) (by rfl) (by rfl)) (nomark _))))) (@pss_cons _ _ _ _ _ (@ps_set _ _ (4) _ _ _ _ sc.nd rfl (Or.inl rfl) (@pe_op _ _ _ _ _ _ _ _ op_mod (@pe_op _ _ _ _ _ _ _ _ op_mul (@pe_op _ _ _ _ _ _ _ _ op_add (@pe_op _ _ _ _ _ _ _ _ op_mod (pv 3) pe_int) (@pe_op _ _ _ _ _ _ _ _ op_mul pe_int (@pe_ix _ _ _ _ _ _ _ ix_list (pv 0) pe_int (fun _ _ => rfl)))) pe_int) pe_int) (by rfl) (by first | exact .inl rfl | exact .inr rfl | assumption)) (@pss_cons _ _ _ _ _ (@ps_set _ _ (4) _ _ _ _ sc.nd rfl (Or.inl rfl) (@pe_op _ _ _ _ _ _ _ _ op_mod (@pe_op _ _ _ _ _ _ _ _ op_mul (@pe_op _ _ _ _ _ _ _ _ op_add (@pe_op _ _ _ _ _ _ _ _ op_fdiv (pv 4) pe_int) (@pe_op _ _ _ _ _ _ _ _ op_mul pe_int (@pe_ix _ _ _ _ _ _ _ ix_list (pv 0) pe_int (fun _ _ => rfl)))) pe_int) pe_int) (by rfl) (by first | exact .inl rfl | exact .inr rfl | assumption)) (@pss_one _ _ _ (@ps_ret _ _ _ _ (@pe_op _ _ _ _ _ _ _ _ op_mod (@pe_op _ _ _ _ _ _ _ _ op_fdiv (pv 4) pe_int) (pv 1)))))) pss_nil) (@pss_one _ _ _ (@ps_asg _ _ _ _ _ _ (pv 3) (@pg_sub _ _ _ _ _ _ _ (pv 0) pe_int set_list (by intro _ ; rfl)) (by rfl) (by rfl) (by rfl)))))))) pss_nil) (@pss_cons _ _ _ _ _ (@ps_set _ _ (5) _ _ _ _ sc.nd rfl (Or.inl rfl) (@pe_op _ _ _ _ _ _ _ _ op_mod (@pe_ix _ _ _ _ _ _ _ ix_list (pv 0) pe_int (fun _ _ => rfl)) (pv 1)) (by rfl) (by first | exact .inl rfl | exact .inr rfl | assumption)) (@pss_cons _ _ _ _ _ (@ps_asg _ _ _ _ _ _ (@pe_op _ _ _ _ _ _ _ _ op_fdiv (@pe_ix _ _ _ _ _ _ _ ix_list (pv 0) pe_int (fun _ _ => rfl)) (pv 1)) (@pg_sub _ _ _ _ _ _ _ (pv 0) pe_int set_list (by intro _ ; rfl)) (by rfl) (by rfl) (by rfl)) (@pss_one _ _ _ (@ps_ret _ _ _ _ (pv 5))))))), ?_⟩
    obtain ⟨i, l, t, ns, hd, hc, dc, h63⟩ := F.ex
    have fin : ∀ (r i' l' t' : Int), 0 ≤ r → r < m → Q (.int r) (upd H d (.lst [.ref c, .int i', .int l', .int t'])) := fun r i' l' t' h0 h1 =>
      k r _ h0 h1 ⟨i', l', t', ns, upd_same, by rw [upd_ne dc]; exact hc, dc, h63⟩ SameB.upd
    have c1 : ∀ o, (upd H d o) c = some (.lst (ns.map V.int)) := fun o => by rw [upd_ne dc]; exact hc
    refine ⟨_, rfl, d, _, _, _, rfl, rfl, SqL.of hd, rfl, _, _, rfl, rfl, _, rfl, d, _, _, _, rfl, rfl, hd, rfl, ?_⟩
    refine ⟨_, rfl, d, _, _, _, rfl, rfl, SqL.of upd_same, rfl, rfl, _, rfl, ?_⟩
    refine ite2 (fun _ => ?_) (fun _ => ?_)
    rotate_left
    · refine ⟨_, rfl, d, _, _, _, rfl, rfl, SqL.of upd_same, rfl, _, rfl, _, _, rfl, rfl, m0, ?_⟩
      refine ⟨_, rfl, d, _, _, _, rfl, rfl, SqL.of upd_same, rfl, _, rfl, _, _, rfl, rfl, ⟨m0, by omega⟩, _, rfl, d, _, _, _, rfl, rfl, upd_same, rfl, ?_⟩
      refine ⟨_, rfl, ?_⟩
      rw [upd_upd]
      exact fin _ _ _ _ (Int.emod_nonneg _ (by omega)) (Int.emod_lt_of_pos _ m0)
    refine ⟨_, rfl, d, _, _, _, rfl, rfl, SqL.of upd_same, rfl, ?_⟩
    refine ⟨_, rfl, _, _, rfl, rfl, _, rfl, d, _, _, _, rfl, rfl, upd_same, rfl, ?_⟩
    rw [upd_upd]
    refine ⟨_, rfl, d, _, _, _, rfl, rfl, SqL.of upd_same, rfl, c, _, rfl, .inl (SqL.of (c1 _)), _, _, rfl, rfl, _, rfl, ?_⟩
    refine ite2 (fun h0 => ?_) (fun h0 => ?_)
    · have hne : ns ≠ [] := by
        intro e
        subst e
        simp at h0
      have hl0 : (0 : Int) < ((ns.map V.int).length : Int) := by
        rw [List.length_map]
        have := List.length_pos_iff.mpr hne
        omega
      obtain ⟨n, hn⟩ := cell_at hne i
      refine ⟨_, rfl, d, _, _, _, rfl, rfl, SqL.of upd_same, rfl, _, rfl, _, rfl, d, _, _, _, rfl, rfl, SqL.of upd_same, rfl, c, _, rfl, .inl (SqL.of (c1 _)), _, _, rfl, rfl, hl0, c, _, _, _, rfl, rfl, SqL.of (c1 _), hn, ?_⟩
      refine ⟨_, rfl, _, _, rfl, rfl, ⟨by decide, by decide, by decide⟩, _, _, rfl, rfl, _, rfl, ?_⟩
      refine ite2 (fun h1 => ?_) (fun h1 => ?_)
      · refine ⟨_, rfl, _, _, rfl, rfl, (by show (0 : Int) < 1000003; decide), _, rfl, d, _, _, _, rfl, rfl, SqL.of upd_same, rfl, _, _, rfl, rfl, .inl ⟨by decide, by decide⟩, _, _, rfl, rfl, _, _, rfl, rfl, .inr ⟨by decide, by decide⟩, _, _, rfl, rfl, (by show (0 : Int) < 2147483647; decide), ?_⟩
        refine ⟨_, rfl, _, _, rfl, rfl, ⟨by decide, by decide⟩, _, rfl, d, _, _, _, rfl, rfl, SqL.of upd_same, rfl, _, _, rfl, rfl, .inl ⟨by decide, by decide⟩, _, _, rfl, rfl, _, _, rfl, rfl, .inr ⟨by decide, by decide⟩, _, _, rfl, rfl, (by show (0 : Int) < 2147483587; decide), ?_⟩
        refine ⟨_, rfl, _, _, rfl, rfl, ⟨by decide, by decide⟩, _, rfl, _, _, rfl, rfl, m0, ?_⟩
        exact fin _ _ _ _ (Int.emod_nonneg _ (by omega)) (Int.emod_lt_of_pos _ m0)
      · refine ⟨_, rfl, _, rfl, d, _, _, _, rfl, rfl, SqL.of upd_same, rfl, c, _, rfl, .inl (SqL.of (c1 _)), _, _, rfl, rfl, _, rfl, ?_⟩
        refine ite2 (fun h2 => ?_) (fun h2 => ?_)
        · refine ⟨_, rfl, _, _, rfl, rfl, (by show (0 : Int) < 1000003; decide), _, rfl, d, _, _, _, rfl, rfl, SqL.of upd_same, rfl, _, _, rfl, rfl, .inl ⟨by decide, by decide⟩, _, _, rfl, rfl, _, _, rfl, rfl, .inr ⟨by decide, by decide⟩, _, _, rfl, rfl, (by show (0 : Int) < 2147483647; decide), ?_⟩
          refine ⟨_, rfl, _, _, rfl, rfl, ⟨by decide, by decide⟩, _, rfl, d, _, _, _, rfl, rfl, SqL.of upd_same, rfl, _, _, rfl, rfl, .inl ⟨by decide, by decide⟩, _, _, rfl, rfl, _, _, rfl, rfl, .inr ⟨by decide, by decide⟩, _, _, rfl, rfl, (by show (0 : Int) < 2147483587; decide), ?_⟩
          refine ⟨_, rfl, _, _, rfl, rfl, ⟨by decide, by decide⟩, _, rfl, _, _, rfl, rfl, m0, ?_⟩
          exact fin _ _ _ _ (Int.emod_nonneg _ (by omega)) (Int.emod_lt_of_pos _ m0)
        · refine ⟨_, rfl, _, rfl, d, _, _, _, rfl, rfl, upd_same, rfl, ?_⟩
          rw [upd_upd]
          refine ⟨_, rfl, d, _, _, _, rfl, rfl, SqL.of upd_same, rfl, _, rfl, _, _, rfl, rfl, m0, ?_⟩
          refine ⟨_, rfl, d, _, _, _, rfl, rfl, SqL.of upd_same, rfl, _, rfl, _, _, rfl, rfl, ⟨m0, by omega⟩, _, rfl, d, _, _, _, rfl, rfl, upd_same, rfl, ?_⟩
          refine ⟨_, rfl, ?_⟩
          rw [upd_upd]
          exact fin _ _ _ _ (Int.emod_nonneg _ (by omega)) (Int.emod_lt_of_pos _ m0)
    · refine ⟨_, rfl, _, _, rfl, rfl, ⟨by decide, by decide, by decide⟩, _, _, rfl, rfl, _, rfl, ?_⟩
      refine ite2 (fun h1 => ?_) (fun h1 => ?_)
      · refine ⟨_, rfl, _, _, rfl, rfl, (by show (0 : Int) < 1000003; decide), _, rfl, d, _, _, _, rfl, rfl, SqL.of upd_same, rfl, _, _, rfl, rfl, .inl ⟨by decide, by decide⟩, _, _, rfl, rfl, _, _, rfl, rfl, .inr ⟨by decide, by decide⟩, _, _, rfl, rfl, (by show (0 : Int) < 2147483647; decide), ?_⟩
        refine ⟨_, rfl, _, _, rfl, rfl, ⟨by decide, by decide⟩, _, rfl, d, _, _, _, rfl, rfl, SqL.of upd_same, rfl, _, _, rfl, rfl, .inl ⟨by decide, by decide⟩, _, _, rfl, rfl, _, _, rfl, rfl, .inr ⟨by decide, by decide⟩, _, _, rfl, rfl, (by show (0 : Int) < 2147483587; decide), ?_⟩
        refine ⟨_, rfl, _, _, rfl, rfl, ⟨by decide, by decide⟩, _, rfl, _, _, rfl, rfl, m0, ?_⟩
        exact fin _ _ _ _ (Int.emod_nonneg _ (by omega)) (Int.emod_lt_of_pos _ m0)
      · refine ⟨_, rfl, _, rfl, d, _, _, _, rfl, rfl, SqL.of upd_same, rfl, c, _, rfl, .inl (SqL.of (c1 _)), _, _, rfl, rfl, _, rfl, ?_⟩
        refine ite2 (fun h2 => ?_) (fun h2 => ?_)
        · refine ⟨_, rfl, _, _, rfl, rfl, (by show (0 : Int) < 1000003; decide), _, rfl, d, _, _, _, rfl, rfl, SqL.of upd_same, rfl, _, _, rfl, rfl, .inl ⟨by decide, by decide⟩, _, _, rfl, rfl, _, _, rfl, rfl, .inr ⟨by decide, by decide⟩, _, _, rfl, rfl, (by show (0 : Int) < 2147483647; decide), ?_⟩
          refine ⟨_, rfl, _, _, rfl, rfl, ⟨by decide, by decide⟩, _, rfl, d, _, _, _, rfl, rfl, SqL.of upd_same, rfl, _, _, rfl, rfl, .inl ⟨by decide, by decide⟩, _, _, rfl, rfl, _, _, rfl, rfl, .inr ⟨by decide, by decide⟩, _, _, rfl, rfl, (by show (0 : Int) < 2147483587; decide), ?_⟩
          refine ⟨_, rfl, _, _, rfl, rfl, ⟨by decide, by decide⟩, _, rfl, _, _, rfl, rfl, m0, ?_⟩
          exact fin _ _ _ _ (Int.emod_nonneg _ (by omega)) (Int.emod_lt_of_pos _ m0)
        · refine ⟨_, rfl, _, rfl, d, _, _, _, rfl, rfl, upd_same, rfl, ?_⟩
          rw [upd_upd]
          refine ⟨_, rfl, d, _, _, _, rfl, rfl, SqL.of upd_same, rfl, _, rfl, _, _, rfl, rfl, m0, ?_⟩
          refine ⟨_, rfl, d, _, _, _, rfl, rfl, SqL.of upd_same, rfl, _, rfl, _, _, rfl, rfl, ⟨m0, by omega⟩, _, rfl, d, _, _, _, rfl, rfl, upd_same, rfl, ?_⟩
          refine ⟨_, rfl, ?_⟩
          rw [upd_upd]
          exact fin _ _ _ _ (Int.emod_nonneg _ (by omega)) (Int.emod_lt_of_pos _ m0)
end
end Kx
set_option Elab.async false
set_option linter.all false
set_option maxRecDepth 100000
set_option maxHeartbeats 0
namespace Kx
open PySem PySem.Spec PyProof.Rows L2 Wd
section
variable {P : Program} {w : World} {K : PySem.W.Frag} {mg : Str → Option Value} {base : Heap} {aB : Addr}
abbrev s_back : Stmt := top 2
theorem sc_back : FnScope ["word"] ["word"] (defScope s_back) := ⟨rfl, rfl, rfl, by decide +kernel, rfl, by decide +kernel, by decide +kernel⟩
theorem c_back (D : Df K mg "back" s_back) (T : Bt K w mg aB) : Fnc P w K mg base "back" ["word"] 1 spBk := by
  have sc := sc_back
  refine D.ok sc (fun _ _ _ _ _ _ us hl => match us, hl with | [_], _ => rfl) (fun vs H Q E h => ?_) (fun f cdv A outer s H vs Q E hr h => ?_)
  · obtain ⟨u, rfl, _⟩ := h
    rfl
  · obtain ⟨u, rfl, hu, k⟩ := h
    have l16 := line16
    refine ⟨_, (@pss_one _ _ _ (@ps_ret _ _ _ _ (@pe_bm _ _ _ _ _ _ _ _ _ _ _ _ PySem.F.plainAttrs_str PySem.F.slot_str_join PySem.F.type_str_join mt_join pe_str (@pa_cons _ _ _ _ _ (@pe_comp _ _ _ _ _ _ _ (["letter"]) (["letter"]) ([]) _ _ _ _ (@blk_of _ _ _ _ _ _ rfl (by kernel_rfl)) rfl (@pi_strR _ _ _ _ _ _ rfl T.reversed b_reversed (@pa_cons _ _ _ _ _ (pv 0) pa_nil (by rfl)) (by rfl)) (fun _ _ _ _ => @pg_name _ _ (0) _ (show (["letter"] : List Str).Nodup from by decide +kernel) rfl (Or.inl rfl) (by first | exact .inl rfl | exact .inr rfl | assumption)) (fun _ _ _ _ => pifs_nil) (fun _ _ _ _ => by (exact (@pe_kget _ _ _ _ _ _ _ _ _ T.dB rfl rfl rfl T.mgB (pv 0) (fun _ _ => rfl) (by decide)))) (by intro _ ; rfl)) pa_nil (by rfl)) (by rfl) (by rfl) (by rfl) (by rfl) (by rfl)))), ?_⟩
    refine ⟨rfl, _, rfl, _, rfl, (by rw [toS_length]; omega), ?_⟩
    refine comp_by (own := ["letter"]) (cap := []) (J := Itsr (toS u)) u.length (fun i ys σ H' => H' = H ∧ ys = ones ((bk u).take i) ∧ ∃ v, σ = [v]) ⟨rfl, rfl, none, rfl⟩ (fun i ys σ H' hi ⟨_, e, _⟩ => ?_) (by omega) (fun i ys σ H' hi _ => ?_) (fun ys σ H' _ => ?_) ?_ ?_
    · rw [e, ones_length, List.length_take]; omega
    · show i < (toS u).cps.size; rw [toS_size]; exact hi
    · show _ = (toS u).cps.size; rw [toS_size]
    · rintro i ys σ H1 x H2 N hi ⟨rfl, rfl, v, rfl⟩ ⟨rfl, c, hc, rfl⟩ hN
      rw [toS_size] at hc
      obtain ⟨y, hy, e⟩ := sign_at hc
      obtain ⟨t, ht⟩ := T.gB y
      refine ⟨_, rfl, toS [y], toS [inv y], t, by rw [e], ht, hN _ _ _ ⟨rfl, ?_, _, rfl⟩⟩
      rw [take_snoc (bk_get u hi hy), ← ones_snoc]
      rfl
    · rintro ys σ H1 l ⟨rfl, rfl, v, rfl⟩ hl
      rw [List.take_of_length_le (by rw [bk_length]; exact Nat.le_refl _)]
      refine ⟨_, l, (bk u).map fun x => toS [x], rfl, rfl, SqL.of (by rw [upd_same, ones_str]), join_room _ (by rw [bk_length]; omega), ?_⟩
      rw [join_ones]
      exact k _ (Same.new hl)
end
section
variable {P : Program} {w : World} {K : PySem.W.Frag} {mg : Str → Option Value} {base : Heap} {aB : Addr}
abbrev s_lback : Stmt := top 10
theorem sc_lback : FnScope ["_law_word"] ["_law_word"] (defScope s_lback) := ⟨rfl, rfl, rfl, by decide +kernel, rfl, by decide +kernel, by decide +kernel⟩
theorem c_lback (D : Df K mg "_law_back" s_lback) : Fnc P w K mg base "_law_back" ["_law_word"] 1 spBk := by
  have sc := sc_lback
  refine D.ok sc (fun _ _ _ _ _ _ us hl => match us, hl with | [_], _ => rfl) (fun vs H Q E h => ?_) (fun f cdv A outer s H vs Q E hr h => ?_)
  · obtain ⟨u, rfl, _⟩ := h
    rfl
  · obtain ⟨u, rfl, hu, k⟩ := h
    have l16 := line16
    refine ⟨_, (@pss_one _ _ _ (@ps_ret _ _ _ _ (@pe_bm _ _ _ _ _ _ _ _ _ _ _ _ PySem.F.plainAttrs_str PySem.F.slot_str_join PySem.F.type_str_join mt_join pe_str (@pa_cons _ _ _ _ _ (@pe_comp _ _ _ _ _ _ _ (["_law_sign"]) (["_law_sign"]) ([]) _ _ _ _ (@blk_of _ _ _ _ _ _ rfl (by kernel_rfl)) rfl (@pi_str _ _ _ _ (@pe_revS _ _ _ _ _ _ _ (pv 0) (@pe_un _ _ _ _ _ _ un_neg pe_int))) (fun _ _ _ _ => @pg_name _ _ (0) _ (show (["_law_sign"] : List Str).Nodup from by decide +kernel) rfl (Or.inl rfl) (by first | exact .inl rfl | exact .inr rfl | assumption)) (fun _ _ _ _ => pifs_nil) (fun _ _ _ _ => by (exact (@pe_ifExp _ _ _ _ _ _ _ _ (@pt_cmpR _ _ _ _ _ _ _ _ op_in_str (pv 0) pe_str rfl) (@pe_bm0K _ _ _ _ _ _ _ _ _ (K) rfl PySem.F.plainAttrs_str PySem.F.slot_str_lower PySem.F.type_str_lower mt_lower (pv 0) (by rfl) (by rfl)) (@pe_bm0K _ _ _ _ _ _ _ _ _ (K) rfl PySem.F.plainAttrs_str PySem.F.slot_str_upper PySem.F.type_str_upper mt_upper (pv 0) (by rfl) (by rfl))))) (by intro _ ; rfl)) pa_nil (by rfl)) (by rfl) (by rfl) (by rfl) (by rfl) (by rfl)))), ?_⟩
    refine ⟨rfl, _, rfl, _, rfl, toS u, rfl, rfl, (by rw [toS_length]; omega), ?_⟩
    rw [revS_toS]
    refine ⟨_, rfl, ?_⟩
    refine comp_by (own := ["_law_sign"]) (cap := []) (J := Its (toS u.reverse)) u.length (fun i ys σ H' => H' = H ∧ ys = ones ((bk u).take i) ∧ ∃ v, σ = [v]) ⟨rfl, rfl, none, rfl⟩ (fun i ys σ H' hi ⟨_, e, _⟩ => ?_) (by omega) (fun i ys σ H' hi _ => ?_) (fun ys σ H' _ => ?_) ?_ ?_
    · rw [e, ones_length, List.length_take]; omega
    · show i < (toS u.reverse).cps.size; rw [toS_size, List.length_reverse]; exact hi
    · show _ = (toS u.reverse).cps.size; rw [toS_size, List.length_reverse]
    · rintro i ys σ H1 x H2 N hi ⟨rfl, rfl, v, rfl⟩ ⟨rfl, c, hc, rfl⟩ hN
      obtain ⟨y, hy, e⟩ := sign_at hc
      have hb : (bk u)[i]? = some (inv y) := bk_get u hi (by rw [List.getElem?_reverse hi] at hy; exact hy)
      refine ⟨_, rfl, _, _, rfl, rfl, _, rfl, ?_⟩
      rw [e, in_big]
      refine ite2 (fun h => ?_) (fun h => ?_)
      · have h : ¬ y.val < 6 := by simpa using h
        exact ⟨_, rfl, rfl, _, rfl, rfl, (by rw [toS_length]; show 1 ≤ 5592405; decide), hN _ _ _ ⟨rfl, by rw [lower_one h, take_snoc hb, ← ones_snoc]; rfl, _, rfl⟩⟩
      · have h : y.val < 6 := by simpa using h
        exact ⟨_, rfl, rfl, _, rfl, rfl, (by rw [toS_length]; show 1 ≤ 5592405; decide), hN _ _ _ ⟨rfl, by rw [upper_one h, take_snoc hb, ← ones_snoc]; rfl, _, rfl⟩⟩
    · rintro ys σ H1 l ⟨rfl, rfl, v, rfl⟩ hl
      rw [List.take_of_length_le (by rw [bk_length]; exact Nat.le_refl _)]
      refine ⟨_, l, (bk u).map fun x => toS [x], rfl, rfl, SqL.of (by rw [upd_same, ones_str]), join_room _ (by rw [bk_length]; omega), ?_⟩
      rw [join_ones]
      exact k _ (Same.new hl)
end
end Kx
set_option Elab.async false
set_option linter.all false
set_option maxRecDepth 100000
set_option maxHeartbeats 0
namespace Kx
open PySem PySem.Spec PyProof.Rows L2 Wd
section
variable {P : Program} {w : World} {K : PySem.W.Frag} {mg : Str → Option Value} {base : Heap} {aB : Addr}
abbrev s_hole : Stmt := top 5
theorem sc_hole : FnScope ["surface", "start", "seen", "word", "gap", "letter"] ["surface", "start", "seen"] (defScope s_hole) := ⟨rfl, rfl, rfl, by decide +kernel, rfl, by decide +kernel, by decide +kernel⟩
theorem c_hole (D : Df K mg "hole_from" s_hole) (T : Bt K w mg aB) (F_back : Fnc P w K mg base "back" ["word"] 1 spBk) : Fnc P w K mg base "hole_from" ["surface", "start", "seen"] 2 spHole := by
  have sc := sc_hole
  refine D.ok sc (fun _ _ _ _ _ _ us hl => match us, hl with | [_, _, _], _ => rfl) (fun vs H Q E h => ?_) (fun f cdv A outer s H vs Q E hr h => ?_)
  · obtain ⟨u, g, a, S, rfl, _⟩ := h
    rfl
  · obtain ⟨u, g0, a, S0, rfl, U, hg0, hs0, ha0, k⟩ := h
    have hu := hu_of hr
    have l16 := line16
    have h12 := U.le
    have hpos := U.pos
    refine ⟨_, (@pss_cons _ _ _ _ _ (@ps_set _ _ (3) _ _ _ _ sc.nd rfl (Or.inl rfl) pe_str (by rfl) (by first | exact .inl rfl | exact .inr rfl | assumption)) (@pss_cons _ _ _ _ _ (@ps_set _ _ (4) _ _ _ _ sc.nd rfl (Or.inl rfl) (pv 1) (by rfl) (by first | exact .inl rfl | exact .inr rfl | assumption)) (@pss_cons _ _ _ _ _ (@ps_while _ _ _ _ _ _ PassesOwn.never (@pt_dnot _ _ _ _ _ _ hu (pv 4) (pv 2) rfl) (@pss_cons _ _ _ _ _ (@ps_dput _ _ _ _ _ _ _ _ _ hu (pv 2) (pv 4) pe_bl rfl) (@pss_cons _ _ _ _ _ (@ps_set _ _ (5) _ _ _ _ sc.nd rfl (Or.inl rfl) (@pe_ix _ _ _ _ _ _ _ ix_str (pv 0) (@pe_op _ _ _ _ _ _ _ _ op_mod (@pe_op _ _ _ _ _ _ _ _ op_add (pv 4) pe_int) (@pe_callB _ _ _ _ _ _ _ _ _ call_len_str (by rfl) T.len PySem.boot_len (@pa_cons _ _ _ _ _ (pv 0) pa_nil (by rfl)) (by decide) (by decide) (by rfl) (by rfl))) (fun _ _ => rfl)) (by rfl) (by first | exact .inl rfl | exact .inr rfl | assumption)) (@pss_cons _ _ _ _ _ (@ps_set _ _ (3) _ _ _ _ sc.nd rfl (Or.inl rfl) (@pe_op _ _ _ _ _ _ _ _ op_add_str (pv 3) (pv 5)) (by rfl) (by first | exact .inl rfl | exact .inr rfl | assumption)) (@pss_one _ _ _ (@ps_set _ _ (4) _ _ _ _ sc.nd rfl (Or.inl rfl) (@pe_bm _ _ _ _ _ _ _ _ _ _ _ _ PySem.F.plainAttrs_str PySem.F.slot_str_index PySem.F.type_str_index mt_index (pv 0) (@pa_cons _ _ _ _ _ (@pe_fn _ _ _ _ _ _ _ _ _ _ _ F_back hr (by decide) rfl (@pa_cons _ _ _ _ _ (pv 5) pa_nil (by rfl)) (by decide) (by rfl) (by rfl)) pa_nil (by rfl)) (by rfl) (by rfl) (by rfl) (by rfl) (by rfl)) (by rfl) (by first | exact .inl rfl | exact .inr rfl | assumption))))))) (@pss_one _ _ _ (@ps_ret _ _ _ _ (pv 3)))))), ?_⟩
    refine ⟨_, rfl, ?_⟩
    refine ⟨fun m σ H' => ∃ (S : List Nat) (w : List L) (g : Nat) (v : Option V), σ = [some (tx u), some (.int g0), some (.ref a), some (tx w), some (.int g), v] ∧ Sn u S ∧ g < u.length ∧ H' a = some (.dK (sk S)) ∧ SameB a H H' ∧ wk u g S w = wk u g0 S0 [] ∧ w.length ≤ S.length ∧ m = u.length + 1 - S.length, ⟨_, S0, [], g0, none, rfl, hs0, hg0, ha0, SameB.refl _ _, rfl, Nat.zero_le _, rfl⟩, ?_⟩
    rintro m σ H1 ⟨S, w, g, v, rfl, hs, hg, ha, sb, e, hw, rfl⟩
    have hle := hs.le
    refine ⟨_, rfl, _, rfl, a, _, rfl, DGet.k (k := Sum.inl (g : Int)) ha, ?_⟩
    rw [sk_get]
    refine ⟨_, rfl, ?_⟩
    refine ite2 (fun h => ?_) (fun h => ?_)
    · have h : g ∉ S := by simpa using h
      have hs' := hs.snoc hg h
      have hle' := hs'.le
      rw [List.length_append, List.length_singleton] at hle'
      refine ⟨_, fun σ' H' q => q, ?_⟩
      refine ⟨_, rfl, _, rfl, a, _, rfl, DPut.k (k := Sum.inl (g : Int)) ha (by rw [sk_len]; omega), ?_⟩
      rw [sk_put h]
      have hx := letH_get U g
      have em : ((g : Int) + 1) % (u.length : Int) = (((g + 1) % u.length : Nat) : Int) := by rw [Int.natCast_emod]; rfl
      refine ⟨_, rfl, _, rfl, _, _, rfl, rfl, _, rfl, _, rfl, (by rw [toS_length]; omega), _, _, rfl, rfl, (by rw [toS_length]; omega), _, _, cp (letH u g), rfl, rfl, (by rw [toS_length]; omega), atI_toS (k := (g + 1) % u.length) (by rw [toS_length]; exact em) hx, ?_⟩
      refine ⟨_, rfl, _, rfl, _, _, rfl, rfl, (by rw [toS_length]; show w.length + 1 ≤ sizeLine; omega), ?_⟩
      obtain ⟨rest, ho⟩ := idx_at (U.iv _ (letH_mem U g))
      refine ⟨_, rfl, rfl, _, rfl, [letH u g], rfl, (by show 1 ≤ 5000; decide), fun H2 s2 => ?_⟩
      rw [bk_one]
      refine ⟨_, _, _, rest, rfl, rfl, ho, ?_⟩
      have e2 := (wk_out (w := w) hs hg h).symm.trans e
      refine ⟨u.length + 1 - (S ++ [g]).length, ?_, S ++ [g], w ++ [letH u g], stepH u g, some (tx [letH u g]), (by rw [← tx_app]; rfl), hs', stepH_lt U g, s2 _ _ upd_same, (sb.trans SameB.upd).trans s2.b, e2, ?_, rfl⟩
      · rw [List.length_append, List.length_singleton]
        omega
      · rw [List.length_append, List.length_append]
        simp only [List.length_singleton]
        omega
    · have h : g ∈ S := by simpa using h
      rw [wk_in h] at e
      rw [← e] at k
      exact ⟨_, rfl, k _ ha hs sb⟩
end
end Kx
set_option Elab.async false
set_option linter.all false
set_option maxRecDepth 100000
set_option maxHeartbeats 0
namespace Kx
open PySem PySem.Spec PyProof.Rows L2 Wd
section
variable {P : Program} {w : World} {K : PySem.W.Frag} {mg : Str → Option Value} {base : Heap} {aB : Addr}
abbrev s_holes : Stmt := top 4
theorem sc_holes : FnScope ["surface", "told", "seen", "gap"] ["surface"] (defScope s_holes) := ⟨rfl, rfl, rfl, by decide +kernel, rfl, by decide +kernel, by decide +kernel⟩
theorem c_holes (D : Df K mg "holes" s_holes) (T : Bt K w mg aB) (F_hole : Fnc P w K mg base "hole_from" ["surface", "start", "seen"] 2 spHole) : Fnc P w K mg base "holes" ["surface"] 3 spHoles := by
  have sc := sc_holes
  refine D.ok sc (fun _ _ _ _ _ _ us hl => match us, hl with | [_], _ => rfl) (fun vs H Q E h => ?_) (fun f cdv A outer s H vs Q E hr h => ?_)
  · obtain ⟨u, rfl, _⟩ := h
    rfl
  · obtain ⟨u, rfl, U, k⟩ := h
    have hu := hu_of hr
    have l16 := line16
    have h12 := U.le
    refine ⟨_, (@pss_cons _ _ _ _ _ (@ps_set _ _ (1) _ _ _ _ sc.nd rfl (Or.inl rfl) (@pe_lst _ _ _ _ pa_nil) (by rfl) (by first | exact .inl rfl | exact .inr rfl | assumption)) (@pss_cons _ _ _ _ _ (@ps_set _ _ (2) _ _ _ _ sc.nd rfl (Or.inl rfl) pe_dnewK (by rfl) (by first | exact .inl rfl | exact .inr rfl | assumption)) (@pss_cons _ _ _ _ _ (@ps_for _ _ _ _ _ _ _ _ PassesOwn.never rfl (@pi_range1 _ _ _ _ _ _ rfl T.range (@pa_cons _ _ _ _ _ (@pe_callB _ _ _ _ _ _ _ _ _ call_len_str (by rfl) T.len PySem.boot_len (@pa_cons _ _ _ _ _ (pv 0) pa_nil (by rfl)) (by decide) (by decide) (by rfl) (by rfl)) pa_nil (by rfl)) (by rfl)) (@pg_name _ _ (3) _ sc.nd rfl (Or.inl rfl) (by first | exact .inl rfl | exact .inr rfl | assumption)) (@pss_one _ _ _ (@ps_if _ _ _ _ _ _ _ _ (@pt_dnot _ _ _ _ _ _ hu (pv 3) (pv 2) rfl) (@pss_one _ _ _ (@ps_expr _ _ _ _ (@pe_bm _ _ _ _ _ _ _ _ _ _ _ _ PySem.F.plainAttrs_list PySem.F.slot_list_append PySem.F.type_list_append mt_append (pv 1) (@pa_cons _ _ _ _ _ (@pe_fn _ _ _ _ _ _ _ _ _ _ _ F_hole hr (by decide) rfl (@pa_cons _ _ _ _ _ (pv 0) (@pa_cons _ _ _ _ _ (pv 3) (@pa_cons _ _ _ _ _ (pv 2) pa_nil (by rfl)) (by rfl)) (by rfl)) (by decide) (by rfl) (by rfl)) pa_nil (by rfl)) (by rfl) (by rfl) (by rfl) (by rfl) (by rfl)) (by rfl))) pss_nil)) (by intro _ ; rfl)) (@pss_one _ _ _ (@ps_ret _ _ _ _ (pv 1)))))), ?_⟩
    refine ⟨(by show 0 ≤ sizeLine; decide), fun l hl => ?_⟩
    have s1 : Same H (upd H l (.lst [])) := Same.new hl
    have f1 : (upd H l (.lst [])) l = some (.lst []) := upd_same
    generalize upd H l (.lst []) = H1 at s1 f1 ⊢
    intro a ha
    have la : a ≠ l := (ne_of_none f1 ha).symm
    have s2 : Same H1 (upd H1 a (.dK [])) := Same.new ha
    have f2 : (upd H1 a (.dK [])) a = some (.dK []) := upd_same
    have g1 := s2 _ _ f1
    have s2 := s1.trans s2
    generalize upd H1 a (.dK []) = H2 at s2 f2 g1 ⊢
    have na : H a = none := by
      cases e : H a with
      | none => rfl
      | some o => exact absurd (s1 _ _ e) (by rw [ha]; intro z; cases z)
    refine ⟨_, rfl, _, rfl, (by rw [toS_length]; omega), _, rfl, (by rw [toS_length]; omega), (by rw [toS_length]; omega), ?_⟩
    rw [toS_length]
    refine for_range (lo := 0) (n := (u.length : Int).toNat) (fun i σ H' => ∃ v : Option V, σ = [some (tx u), some (.ref l), some (.ref a), v] ∧ H' l = some (.lst ((holS u i).2.map tx)) ∧ H' a = some (.dK (sk (holS u i).1)) ∧ Sn u (holS u i).1 ∧ Same H H') ⟨none, rfl, g1, f2, Sn.nil u, s2⟩ ?_ ?_
    · rintro i σ H3 hi ⟨v, rfl, h1, h2, hs, s3⟩
      have hi : i < u.length := by omega
      rw [Int.zero_add]
      refine ⟨_, rfl, _, rfl, a, _, rfl, DGet.k (k := Sum.inl (i : Int)) h2, ?_⟩
      rw [sk_get]
      refine ⟨_, rfl, ?_⟩
      refine ite2 (fun h => ?_) (fun h => ?_)
      · have h : i ∉ (holS u i).1 := by simpa using h
        refine ⟨_, rfl, .inl ⟨rfl, _, SqL.of h1⟩, _, rfl, _, rfl, _, rfl, u, i, a, _, rfl, U, hi, hs, h2, fun H4 q1 q2 q3 => ?_⟩
        have h4 := q3 _ _ la.symm h1
        have hlen := hol_txs u i
        refine ⟨l, _, _, rfl, rfl, h4, by omega, _, rfl, ?_, ?_, ?_, ?_⟩
        · rw [upd_same, hol_out h, List.map_append]
          rfl
        · rw [upd_ne la, hol_out h]
          exact q1
        · rw [hol_out h]
          exact q2
        · intro b o e
          rw [upd_ne (ne_of_none e hl)]
          exact q3 _ _ (ne_of_none e na) (s3 _ _ e)
      · have h : i ∈ (holS u i).1 := by simpa using h
        exact ⟨_, rfl, by rw [hol_in h]; exact h1, by rw [hol_in h]; exact h2, by rw [hol_in h]; exact hs, s3⟩
    · rintro σ H3 ⟨v, rfl, h1, h2, hs, s3⟩
      exact ⟨_, rfl, k l _ hl h1 s3⟩
abbrev s_handles : Stmt := top 6
theorem sc_handles : FnScope ["surface"] ["surface"] (defScope s_handles) := ⟨rfl, rfl, rfl, by decide +kernel, rfl, by decide +kernel, by decide +kernel⟩
theorem c_handles (D : Df K mg "handles" s_handles) (T : Bt K w mg aB) (F_holes : Fnc P w K mg base "holes" ["surface"] 3 spHoles) : Fnc P w K mg base "handles" ["surface"] 4 spHandles := by
  have sc := sc_handles
  refine D.ok sc (fun _ _ _ _ _ _ us hl => match us, hl with | [_], _ => rfl) (fun vs H Q E h => ?_) (fun f cdv A outer s H vs Q E hr h => ?_)
  · obtain ⟨u, rfl, _⟩ := h
    rfl
  · obtain ⟨u, rfl, U, k⟩ := h
    have l16 := line16
    have h12 := U.le
    refine ⟨_, (@pss_one _ _ _ (@ps_ret _ _ _ _ (@pe_op _ _ _ _ _ _ _ _ op_fdiv (@pe_op _ _ _ _ _ _ _ _ op_sub (@pe_op _ _ _ _ _ _ _ _ op_add pe_int (@pe_op _ _ _ _ _ _ _ _ op_fdiv (@pe_callB _ _ _ _ _ _ _ _ _ call_len_str (by rfl) T.len PySem.boot_len (@pa_cons _ _ _ _ _ (pv 0) pa_nil (by rfl)) (by decide) (by decide) (by rfl) (by rfl)) pe_int)) (@pe_callB _ _ _ _ _ _ _ _ _ call_len_seq (by rfl) T.len PySem.boot_len (@pa_cons _ _ _ _ _ (@pe_fn _ _ _ _ _ _ _ _ _ _ _ F_holes hr (by decide) rfl (@pa_cons _ _ _ _ _ (pv 0) pa_nil (by rfl)) (by decide) (by rfl) (by rfl)) pa_nil (by rfl)) (by decide) (by decide) (by rfl) (by rfl))) pe_int))), ?_⟩
    refine ⟨_, rfl, _, rfl, (by rw [toS_length]; omega), _, _, rfl, rfl, ⟨by decide, by decide⟩, _, _, rfl, rfl, _, rfl, u, rfl, U, fun l H1 _ hl s1 => ?_⟩
    refine ⟨l, _, rfl, .inl (SqL.of hl), _, _, rfl, rfl, _, _, rfl, rfl, ⟨by decide, by decide⟩, ?_⟩
    rw [List.length_map, toS_length]
    exact k _ s1
end
end Kx
set_option Elab.async false
set_option linter.all false
set_option maxRecDepth 100000
set_option maxHeartbeats 0
namespace Kx
open PySem PySem.Spec PyProof.Rows L2 Wd
/-! leaves of data -/
inductive Leaf : PyData → Prop where
  | s (u : List L) : u.length ≤ 5000 → Leaf (.str (toS u))
  | i (n : Int) : -100 ≤ n → n ≤ 100 → Leaf (.int n)
/-! the root by find -/
def spRoot : Sp := fun vs H Q _ => ∃ u, vs = [tx u] ∧ u ≠ [] ∧ u.length ≤ 60 ∧ ∀ (p : Nat) (t : Addr) (H' : Hp), Root u p → H' t = some (.tup [tx (u.take p), .int ((u.length / p : Nat) : Int)]) → Same H H' → Q (.ref t) H'
/-- how often a letter, less how often its back -/
def dif (u : List L) (x : L) : Int := ((u.count x : Nat) : Int) - ((u.count (inv x) : Nat) : Int)
@[irreducible] def sml (m : Int) : List L := ([0, 1, 2, 3, 4, 5] : List L).take m.toNat
def spSums : Sp := fun vs H Q _ => ∃ (m : Int) (u : List L), vs = [.int m, tx u] ∧ 1 ≤ m ∧ m ≤ 6 ∧ u.length ≤ 60 ∧ ∀ (t : Addr) (H' : Hp), H' t = some (.tup ((sml m).map fun x => V.int (dif u x))) → Same H H' → Q (.ref t) H'
def spMid : Sp := fun vs H Q _ => ∃ u, vs = [tx u] ∧ u.length ≤ 2000 ∧ ∀ (v : List L) (H' : Hp), v.length ≤ u.length → Same H H' → Q (tx v) H'
def spRowK : Sp := fun vs H Q _ => ∃ (d c : Addr) (m : Int), vs = [.ref d, .int m] ∧ Tp H d c ∧ 1 ≤ m ∧ m ≤ 6 ∧ ∀ (u : List L) (k : Nat) (H' : Hp), SK u k → (k : Int) ≤ m → Tp H' d c → SameB d H H' → Q (tx u) H'
def spLet : Sp := fun vs H Q _ => ∃ (u : List L) (k : Nat), vs = [tx u] ∧ SK u k ∧ Q (tx (sml (k : Int))) H
def spRf : Sp := fun vs H Q _ => ∃ (u : List L) (k : Nat) (a b : L), vs = [tx u, tx [a], tx [b]] ∧ SK u k ∧ a ∈ u ∧ b ∈ u ∧ Q (.int (rfI u a b)) H
def spPl : Sp := fun vs H Q _ => ∃ (u : List L) (k : Nat) (a : L), vs = [tx u, tx [a]] ∧ SK u k ∧ a ∈ u ∧ ∀ (p : Addr) (H' : Hp), H' p = some (.tup [.int (u.idxOf a : Nat), .int (u.idxOf (inv a) : Nat)]) → Same H H' → Q (.ref p) H'
def metB (a b c d : Nat) : Bool := decide (min a b < c ∧ c < max a b) != decide (min a b < d ∧ d < max a b)
def spMet : Sp := fun vs H Q _ => ∃ (p q : Addr) (a b c d : Nat), vs = [.ref p, .ref q] ∧ H p = some (.tup [.int (a : Int), .int (b : Int)]) ∧ H q = some (.tup [.int (c : Int), .int (d : Int)]) ∧ Q (.bl (metB a b c d)) H
def spSide : Sp := fun vs H Q _ => ∃ (u : List L) (k : Nat) (x y : L), vs = [tx u, tx [x], tx [y]] ∧ SK u k ∧ Four u x y ∧ ∀ H', Same H H' → Q (.int (sd u x y)) H'
def spBal : Sp := fun vs H Q _ => ∃ (u w1 w2 : List L) (k : Nat), vs = [tx u, tx w1, tx w2] ∧ SK u k ∧ w1.length ≤ 60 ∧ w2.length ≤ 60 ∧ ∀ H', Same H H' → Q (.int (bal u k w1 w2)) H'
def spSoon : Sp := fun vs H Q _ => ∃ (u : List L) (k : Nat) (b a c : L), vs = [tx u, tx [b], tx [a], tx [c]] ∧ SK u k ∧ b ∈ u ∧ a ∈ u ∧ c ∈ u ∧ a ≠ c ∧ ∀ H', Same H H' → Q (.bl (decide (rfI u b a < rfI u b c))) H'
def spAW : Sp := fun vs H Q _ => ∃ (d c : Addr) (m : Int), vs = [.ref d, .int m] ∧ Tp H d c ∧ 1 ≤ m ∧ m ≤ 6 ∧ ∀ (w : List L) (H' : Hp), w.length ≤ 8 → Tp H' d c → SameB d H H' → Q (tx w) H'
def spLSide : Sp := fun vs H Q _ => ∃ (u : List L) (k : Nat) (x y : L), vs = [tx u, tx [x], tx [y]] ∧ SK u k ∧ x.val < 6 ∧ y.val < 6 ∧ Four u x y ∧ ∀ H', Same H H' → Q (.int (sd u x y)) H'
def spWgt : Sp := fun vs H Q _ => ∃ (u w1 w2 : List L) (k : Nat), vs = [tx u, tx w1, tx w2] ∧ SK u k ∧ w1.length ≤ 60 ∧ w2.length ≤ 60 ∧ ∀ H', Same H H' → Q (.int (bal u k w1 w2)) H'
def spRight33 : Sp := fun vs H Q _ => ∃ (u w1 w2 w3 : List L) (k : Nat), vs = [tx u, tx w1, tx w2, tx w3] ∧ SK u k ∧ w1.length ≤ 20 ∧ w2.length ≤ 20 ∧ w3.length ≤ 20 ∧ ∀ H', Same H H' → Q (.bl true) H'
end Kx
set_option Elab.async false
set_option linter.all false
set_option maxRecDepth 100000
set_option maxHeartbeats 0
namespace Kx
open PySem PySem.Spec PyProof.Rows L2 Wd
section
variable {P : Program} {w : World} {K : PySem.W.Frag} {mg : Str → Option Value} {base : Heap} {aB : Addr}
abbrev s_row : Stmt := top 11
theorem sc_row : FnScope ["_law_tape_here", "_law_most", "_law_row", "_law_k", "_law_sign"] ["_law_tape_here", "_law_most"] (defScope s_row) := ⟨rfl, rfl, rfl, by decide +kernel, rfl, by decide +kernel, by decide +kernel⟩
theorem c_row (D : Df K mg "_law_any_row" s_row) (T : Bt K w mg aB) (F_draw : Fnc P w K mg base "_law_draw" ["_law_tape_here", "_law_many"] 1 spTDraw) : Fnc P w K mg base "_law_any_row" ["_law_tape_here", "_law_most"] 2 spRowK := by
  have sc := sc_row
  refine D.ok sc (fun _ _ _ _ _ _ us hl => match us, hl with | [_, _], _ => rfl) (fun vs H Q E h => ?_) (fun f cdv A outer s H vs Q E hr h => ?_)
  · obtain ⟨d, c, m, rfl, _⟩ := h
    rfl
  · obtain ⟨d, c, m, rfl, F, m1, m6, k⟩ := h
    have l16 := line16
    refine ⟨_, (@pss_cons _ _ _ _ _ (@ps_set _ _ (2) _ _ _ _ sc.nd rfl (Or.inl rfl) (@pe_lst _ _ _ _ pa_nil) (by rfl) (by first | exact .inl rfl | exact .inr rfl | assumption)) (@pss_cons _ _ _ _ _ (@ps_for _ _ _ _ _ _ _ _ PassesOwn.never rfl (@pi_range1 _ _ _ _ _ _ rfl T.range (@pa_cons _ _ _ _ _ (@pe_op _ _ _ _ _ _ _ _ op_add pe_int (@pe_fn _ _ _ _ _ _ _ _ _ _ _ F_draw hr (by decide) rfl (@pa_cons _ _ _ _ _ (pv 0) (@pa_cons _ _ _ _ _ (pv 1) pa_nil (by rfl)) (by rfl)) (by decide) (by rfl) (by rfl))) pa_nil (by rfl)) (by rfl)) (@pg_name _ _ (3) _ sc.nd rfl (Or.inl rfl) (by first | exact .inl rfl | exact .inr rfl | assumption)) (@pss_one _ _ _ (@ps_for _ _ _ _ _ _ _ _ PassesOwn.never rfl (@pi_tup _ _ _ _ (@pe_tup _ _ _ _ _ (@pa_cons _ _ _ _ _ (@pe_ix _ _ _ _ _ _ _ ix_str pe_str (pv 3) (fun _ _ => rfl)) (@pa_cons _ _ _ _ _ (@pe_ix _ _ _ _ _ _ _ ix_str pe_str (pv 3) (fun _ _ => rfl)) pa_nil (by rfl)) (by rfl)))) (@pg_name _ _ (4) _ sc.nd rfl (Or.inl rfl) (by first | exact .inl rfl | exact .inr rfl | assumption)) (@pss_one _ _ _ (@ps_expr _ _ _ _ (@pe_bm _ _ _ _ _ _ _ _ _ _ _ _ PySem.F.plainAttrs_list PySem.F.slot_list_insert PySem.F.type_list_insert mt_insert (pv 2) (@pa_cons _ _ _ _ _ (@pe_fn _ _ _ _ _ _ _ _ _ _ _ F_draw hr (by decide) rfl (@pa_cons _ _ _ _ _ (pv 0) (@pa_cons _ _ _ _ _ (@pe_op _ _ _ _ _ _ _ _ op_add (@pe_callB _ _ _ _ _ _ _ _ _ call_len_seq (by rfl) T.len PySem.boot_len (@pa_cons _ _ _ _ _ (pv 2) pa_nil (by rfl)) (by decide) (by decide) (by rfl) (by rfl)) pe_int) pa_nil (by rfl)) (by rfl)) (by decide) (by rfl) (by rfl)) (@pa_cons _ _ _ _ _ (pv 4) pa_nil (by rfl)) (by rfl)) (by rfl) (by rfl) (by rfl) (by rfl) (by rfl)) (by rfl))) (by intro _ ; rfl))) (by intro _ ; rfl)) (@pss_one _ _ _ (@ps_ret _ _ _ _ (@pe_bm _ _ _ _ _ _ _ _ _ _ _ _ PySem.F.plainAttrs_str PySem.F.slot_str_join PySem.F.type_str_join mt_join pe_str (@pa_cons _ _ _ _ _ (pv 2) pa_nil (by rfl)) (by rfl) (by rfl) (by rfl) (by rfl) (by rfl)))))), ?_⟩
    refine ⟨(by show 0 ≤ sizeLine; decide), fun p hp => ?_⟩
    have hpd := F.ne hp
    have hpc := F.nec hp
    refine ⟨_, rfl, _, rfl, d, c, m, rfl, F.new hp, by omega, by omega, fun r H1 r0 r1 F1 sb1 => ?_⟩
    have f1 := sb1 _ _ hpd upd_same
    have sb1 := ((Same.new (o := .lst []) hp).b (d := d)).trans sb1
    refine ⟨_, _, rfl, rfl, _, rfl, by omega, by omega, ?_⟩
    refine for_range (lo := 0) (n := (1 + r).toNat) (fun i σ H' => ∃ (a b : Option V) (W : List L), σ = [some (.ref d), some (.int m), some (.ref p), a, b] ∧ H' p = some (.lst (ones W)) ∧ W.Perm (fam i) ∧ Tp H' d c ∧ SameB d H H') ⟨none, none, [], rfl, f1, List.Perm.refl _, F1, sb1⟩ ?_ ?_
    · rintro i σ H2 hi ⟨a, b, W, rfl, hW, pW, F2, sb2⟩
      have hi : i < 6 := by omega
      rw [Int.zero_add]
      have lW : (ones W).length ≤ 12 := by
        obtain ⟨_, _, c⟩ := fam_ok ⟨i, by omega⟩
        have c : (fam i).length = 2 * i := c
        have := pW.length_eq
        rw [ones_length]
        omega
      refine ⟨_, rfl, _, _, _, rfl, rfl, (by rw [len_sm]; omega), sm_at hi, _, rfl, _, _, _, rfl, rfl, (by rw [len_bg]; omega), bg_at hi, ?_⟩
      refine ⟨(by show 2 ≤ sizeLine; omega), fun t ht => ?_⟩
      generalize ex : (⟨i, by omega⟩ : L) = x
      generalize ey : (⟨i + 6, by omega⟩ : L) = y
      have htp : t ≠ p := (ne_of_none hW ht).symm
      have htd : t ≠ d := F2.ne ht
      refine ⟨t, rfl, ⟨_, SqT.of upd_same⟩, for_tup (xs := [tx [x], tx [y]]) (fun j σ H' => ∃ (b : Option V) (W : List L), σ = [some (.ref d), some (.int m), some (.ref p), some (.int (i : Int)), b] ∧ H' p = some (.lst (ones W)) ∧ W.Perm (fam i ++ [x, y].take j) ∧ Tp H' d c ∧ SameB d H H' ∧ H' t = some (.tup [tx [x], tx [y]])) ⟨b, W, rfl, (Same.new ht) _ _ hW, by rw [List.take_zero, List.append_nil]; exact pW, F2.new ht, sb2.trans (Same.new ht).b, upd_same⟩ (fun j σ H' hj ⟨_, _, _, _, _, _, _, q⟩ => SqT.of q) ?_ ?_⟩
      · rintro j z σ H3 hz ⟨b, W, rfl, hW, pW, F3, sb3, h3⟩
        have hj : j < 2 := by
          have := (List.getElem?_eq_some_iff.mp hz).1
          exact this
        have lW : (ones W).length ≤ 14 := by
          obtain ⟨_, _, c⟩ := fam_ok ⟨i, by omega⟩
          have c : (fam i).length = 2 * i := c
          have := pW.length_eq
          rw [List.length_append, List.length_take, c] at this
          rw [ones_length, this]
          simp only [List.length_cons, List.length_nil]
          omega
        obtain ⟨z', ez, hz'⟩ : ∃ z', z = tx [z'] ∧ [x, y][j]? = some z' := by
          have : j = 0 ∨ j = 1 := by omega
          rcases this with rfl | rfl
          · exact ⟨x, (Option.some.inj hz).symm, rfl⟩
          · exact ⟨y, (Option.some.inj hz).symm, rfl⟩
        subst ez
        refine ⟨_, rfl, .inl ⟨rfl, _, SqL.of hW⟩, _, rfl, _, rfl, p, _, rfl, .inl (SqL.of hW), _, _, rfl, rfl, d, c, _, rfl, F3, by omega, by omega, fun q H4 q0 q1 F4 sb4 => ?_⟩
        have h4 := sb4 _ _ hpd hW
        refine ⟨_, rfl, p, _, q, _, rfl, rfl, h4, q0, by omega, by omega, ?_⟩
        rw [ones_ins]
        have s5 : SameB p H4 (upd H4 p (.lst (ones (W.take q.toNat ++ z' :: W.drop q.toNat)))) := SameB.upd
        refine ⟨_, _, rfl, upd_same, ?_, F4.but hpd hpc s5, fun b o n e => s5 _ _ (ne_of_none e hp) (sb4 _ _ n (sb3 _ _ n e)), s5 _ _ htp (sb4 _ _ htd h3)⟩
        have e : [x, y].take (j + 1) = [x, y].take j ++ [z'] := take_snoc hz'
        rw [e, ← List.append_assoc]
        exact perm_ins z' q.toNat pW
      · rintro σ H3 ⟨b, W, rfl, hW, pW, F3, sb3, h3⟩
        refine ⟨_, _, W, rfl, hW, ?_, F3, sb3⟩
        rw [fam_succ hi, ex, ey]
        exact pW
    · rintro σ H2 ⟨a, b, W, rfl, hW, pW, F2, sb2⟩
      have hl := pW.length_eq
      obtain ⟨_, _, c⟩ := fam_ok ⟨(1 + r).toNat, by omega⟩
      have c : (fam (1 + r).toNat).length = 2 * (1 + r).toNat := c
      refine ⟨rfl, _, rfl, _, p, W.map fun x => toS [x], rfl, rfl, SqL.of (by rw [hW, ones_str]), join_room _ (by omega), ?_⟩
      rw [join_ones]
      exact k _ _ _ ⟨pW, by omega, by omega⟩ (by omega) F2 sb2
end
end Kx
set_option Elab.async false
set_option linter.all false
set_option maxRecDepth 100000
set_option maxHeartbeats 0
namespace Kx
open PySem PySem.Spec PyProof.Rows L2 Wd
section
variable {P : Program} {w : World} {K : PySem.W.Frag} {mg : Str → Option Value} {base : Heap} {aB : Addr}
abbrev s_lleast : Stmt := top 12
theorem sc_lleast : FnScope ["_law_word"] ["_law_word"] (defScope s_lleast) := ⟨rfl, rfl, rfl, by decide +kernel, rfl, by decide +kernel, by decide +kernel⟩
theorem c_lleast (D : Df K mg "_law_least" s_lleast) (T : Bt K w mg aB) : Fnc P w K mg base "_law_least" ["_law_word"] 1 spLeastN := by
  have sc := sc_lleast
  refine D.ok sc (fun _ _ _ _ _ _ us hl => match us, hl with | [_], _ => rfl) (fun vs H Q E h => ?_) (fun f cdv A outer s H vs Q E hr h => ?_)
  · obtain ⟨u, rfl, _⟩ := h
    rfl
  · obtain ⟨u, rfl, h0, hu, k⟩ := h
    have l16 := line16
    have hw : (toS u).length ≤ sizeLine := by rw [toS_length]; omega
    have hp := List.length_pos_iff.mpr h0
    refine ⟨_, (@pss_one _ _ _ (@ps_ret _ _ _ _ (@pe_callB _ _ _ _ _ _ _ _ _ (@call_min_strs _ rfl) (by rfl) T.min b_min (@pa_cons _ _ _ _ _ (@pe_comp _ _ _ _ _ _ _ (["_law_k", "_law_word"]) (["_law_k"]) ([0]) _ _ _ _ (@blk_of _ _ _ _ _ _ rfl (by kernel_rfl)) rfl (@pi_range1 _ _ _ _ _ _ rfl T.range (@pa_cons _ _ _ _ _ (@pe_callB _ _ _ _ _ _ _ _ _ call_len_str (by rfl) T.len PySem.boot_len (@pa_cons _ _ _ _ _ (pv 0) pa_nil (by rfl)) (by decide) (by decide) (by rfl) (by rfl)) pa_nil (by rfl)) (by rfl)) (fun _ _ _ _ => @pg_name _ _ (0) _ (show (["_law_k", "_law_word"] : List Str).Nodup from by decide +kernel) rfl (Or.inl rfl) (by first | exact .inl rfl | exact .inr rfl | assumption)) (fun _ _ _ _ => pifs_nil) (fun _ _ _ _ => by (exact @pe_op _ _ _ _ _ _ _ _ op_add_str (by (exact (@pe_slice _ _ _ _ _ _ _ _ _ _ sl_str (pv 1) (@po_some _ _ _ (pv 0)) po_none))) (by (exact (@pe_slice _ _ _ _ _ _ _ _ _ _ sl_str (pv 1) po_none (@po_some _ _ _ (pv 0))))))) (by intro _ ; rfl)) pa_nil (by rfl)) (by decide) (by decide) (by rfl) (by rfl)))), ?_⟩
    refine ⟨_, rfl, _, rfl, hw, _, rfl, by rw [toS_length]; omega, by rw [toS_length]; omega, ?_⟩
    rw [Int.toNat_natCast, toS_length]
    have rl : (rots u).length = u.length := by unfold rots; rw [List.length_map, List.length_range]; omega
    refine comp_by (own := ["_law_k"]) (cap := [0]) (J := Itr 0 u.length) u.length (fun i ys σ H' => ∃ v : Option V, σ = [v, some (tx u)] ∧ ys = (((rots u).take i).map toS).map V.str ∧ H' = H) ⟨none, rfl, rfl, rfl⟩
      (fun i ys σ H' hi ⟨v, _, e, _⟩ => ?_) (by omega) (fun i ys σ H' hi _ => hi) (fun ys σ H' _ => Nat.le_refl _) ?_ ?_
    · rw [e, List.length_map, List.length_map, List.length_take]; omega
    · rintro i ys σ H1 x H2 N hi ⟨v, rfl, rfl, rfl⟩ ⟨rfl, rfl⟩ hN
      have e1 : (0 + (i : Int)).toNat = i := by omega
      have e2 : (rots u)[i]? = some (u.drop i ++ u.take i) := by
        unfold rots
        rw [List.getElem?_map, List.getElem?_range (by omega)]
        rfl
      refine ⟨_, rfl, _, rfl, _, rfl, _, rfl, hw, _, rfl, _, rfl, _, rfl, _, rfl, hw, _, _, rfl, rfl, ?_, hN _ _ _ ⟨_, rfl, ?_, rfl⟩⟩
      · rw [slice_toS, slice_toS, toS_length, toS_length]
        have h1 := cut_length u (some (0 + (i : Int))) none
        have h2 := cut_length u none (some (0 + (i : Int)))
        omega
      · rw [slice_toS, slice_toS, cut_from _ (by omega), cut_to _ (by omega), e1, toS_append, List.take_add_one, e2, List.map_append, List.map_append]
        rfl
    · rintro ys σ H1 l ⟨v, rfl, rfl, rfl⟩ hl
      rw [List.take_of_length_le (by rw [rl]; exact Nat.le_refl _)]
      refine ⟨l, (rots u).map toS, rfl, SqL.of upd_same, ?_, fun m hm => ?_⟩
      · intro e
        have := congrArg List.length e
        rw [List.length_map, rl] at this
        simp at this
        exact h0 this
      · rw [Least.one hm (lw_is u)]
        exact k _ (Same.new hl)
abbrev s_up : Stmt := top 13
theorem sc_up : FnScope ["_law_words"] ["_law_words"] (defScope s_up) := ⟨rfl, rfl, rfl, by decide +kernel, rfl, by decide +kernel, by decide +kernel⟩
theorem c_up (D : Df K mg "_law_round_up" s_up) (T : Bt K w mg aB) (F_lleast : Fnc P w K mg base "_law_least" ["_law_word"] 1 spLeastN) : Fnc P w K mg base "_law_round_up" ["_law_words"] 2 spUp := by
  have sc := sc_up
  refine D.ok sc (fun _ _ _ _ _ _ us hl => match us, hl with | [_], _ => rfl) (fun vs H Q E h => ?_) (fun f cdv A outer s H vs Q E hr h => ?_)
  · obtain ⟨l, W, rfl, _⟩ := h
    rfl
  · obtain ⟨l, W, rfl, hl, h64, hW, k⟩ := h
    have l16 := line16
    refine ⟨_, (@pss_one _ _ _ (@ps_ret _ _ _ _ (@pe_callB _ _ _ _ _ _ _ _ _ call_sorted_words (by rfl) T.sorted b_sorted (@pa_cons _ _ _ _ _ (@pe_comp _ _ _ _ _ _ _ (["_law_word"]) (["_law_word"]) ([]) _ _ _ _ (@blk_of _ _ _ _ _ _ rfl (by kernel_rfl)) rfl (@pi_list _ _ _ _ (pv 0)) (fun _ _ _ _ => @pg_name _ _ (0) _ (show (["_law_word"] : List Str).Nodup from by decide +kernel) rfl (Or.inl rfl) (by first | exact .inl rfl | exact .inr rfl | assumption)) (fun _ _ _ _ => pifs_nil) (fun _ _ _ _ => by (exact (@pe_fn _ _ _ _ _ _ _ _ _ _ _ F_lleast hr (by decide) rfl (@pa_cons _ _ _ _ _ (pv 0) pa_nil (by rfl)) (by decide) (by rfl) (by rfl)))) (by intro _ ; rfl)) pa_nil (by rfl)) (by decide) (by decide) (by rfl) (by rfl)))), ?_⟩
    refine ⟨_, rfl, l, rfl, ⟨_, SqL.of hl⟩, ?_⟩
    refine comp_by (own := ["_law_word"]) (cap := []) (J := Itl K l) W.length (fun i ys σ H' => ∃ v : Option V, σ = [v] ∧ ys = ((W.take i).map lw).map tx ∧ Same H H') ⟨none, rfl, rfl, Same.refl _⟩
      (fun i ys σ H' hi ⟨v, _, e, _⟩ => ?_) (by omega) (fun i ys σ H' hi ⟨v, _, _, s1⟩ => ?_) (fun ys σ H' ⟨v, _, _, s1⟩ => ?_) ?_ ?_
    · rw [e, List.length_map, List.length_map, List.length_take]; omega
    · exact ⟨W.map tx, tx W[i], SqL.of (s1 _ _ hl), by rw [List.getElem?_map, List.getElem?_eq_getElem hi]; rfl⟩
    · exact ⟨W.map tx, SqL.of (s1 _ _ hl), by rw [List.length_map]; exact Nat.le_refl _⟩
    · rintro i ys σ H1 x H2 N hi ⟨v, rfl, rfl, s1⟩ ⟨rfl, hx⟩ hN
      have hx := hx _ (SqL.of (s1 _ _ hl))
      rw [List.getElem?_map, List.getElem?_eq_getElem hi] at hx
      obtain rfl := Option.some.inj hx
      have hm := hW _ (List.getElem_mem hi)
      refine ⟨_, rfl, W[i], rfl, hm.1, hm.2, fun H3 s3 => hN _ _ _ ⟨_, rfl, ?_, s1.trans s3⟩⟩
      rw [List.take_add_one, List.getElem?_eq_getElem hi, List.map_append, List.map_append]
      rfl
    · rintro ys σ H1 q ⟨v, rfl, rfl, s1⟩ hq
      rw [List.take_length]
      refine ⟨q, W.map lw, rfl, SqL.of upd_same, by rw [List.length_map]; exact h64, fun p V hp pm so => ?_⟩
      have s2 : Same H1 (upd H1 q (.lst ((W.map lw).map tx))) := Same.new hq
      exact k p V _ (none_of (s1.trans s2) hp) upd_same pm so ((s1.trans s2).trans (Same.new hp))
end
end Kx
set_option Elab.async false
set_option linter.all false
set_option maxRecDepth 100000
set_option maxHeartbeats 0
namespace Kx
open PySem PySem.Spec PyProof.Rows L2 Wd
def spSurfD : Sp := fun vs H Q _ => ∃ (d : Addr) (n : Nat), vs = [.ref d, .int (n : Int)] ∧ Fd H d ∧ 1 ≤ n ∧ n ≤ 6 ∧ ∀ (u : List L) (H' : Hp), RowN n u → (∀ x : L, x.val % 6 < n → x ∈ u) → Fd H' d → SameB d H H' → Q (tx u) H'
def spSlid : Sp := fun vs H Q _ => ∃ (u : List L) (i : Nat) (sd : Int) (e : L), vs = [tx u, .int (i : Int), .int sd] ∧ u.length ≤ 12 ∧ u[i]? = some e ∧ (∀ H', Same H H' → farOf u i sd = inv e → Q .non H') ∧ (∀ (z : Str) (H' : Hp), Same H H' → farOf u i sd ≠ inv e → Q (.str z) H')
def spLMaps : Sp := fun vs H Q _ => ∃ (u : List L) (n i : Nat) (sd : Int) (e : L), vs = [tx u, .int (i : Int), .int sd] ∧ RowN n u ∧ 1 ≤ n ∧ n ≤ 6 ∧ u[i]? = some e ∧
  ∀ (r a b : Addr) (H' : Hp), Same H H' → H' r = some (.lst [.ref a, .ref b]) → H' a = some (.tup ((putM n e (farOf u i sd)).map tx)) → H' b = some (.tup ((putM n e (inv (farOf u i sd))).map tx)) → Q (.ref r) H'
theorem erase_perm {α : Type} : ∀ {xs : List α} {k : Nat} {x : α}, xs[k]? = some x → xs.Perm (x :: xs.eraseIdx k)
  | [], k, x, h => by simp at h
  | y :: r, 0, x, h => by simp at h; subst h; exact List.Perm.refl _
  | y :: r, k + 1, x, h => by
    have := erase_perm (xs := r) (k := k) (x := x) (by simpa using h)
    exact (List.Perm.cons y this).trans (List.Perm.swap _ _ _)
theorem signs_ones (W : List L) : L2.signs (toS W) = ones W := by
  unfold L2.signs ones
  rw [toS_cps, List.map_map]
  rfl
theorem map_erase {α β : Type} (g : α → β) : ∀ (xs : List α) (k : Nat), (xs.map g).eraseIdx k = (xs.eraseIdx k).map g
  | [], k => by simp
  | x :: r, 0 => by simp
  | x :: r, k + 1 => by
    rw [List.map_cons, List.eraseIdx_cons_succ, List.eraseIdx_cons_succ, List.map_cons, map_erase g r k]
theorem ones_erase (W : List L) (k : Nat) : (ones W).eraseIdx k = ones (W.eraseIdx k) := map_erase _ W k
section
variable {P : Program} {w : World} {K : PySem.W.Frag} {mg : Str → Option Value} {base : Heap} {aB : Addr}
theorem range_take : ∀ k : Fin 7, (([0, 1, 2, 3, 4, 5] : List L).take k.val).map (fun x : L => x.val) = List.range k.val := by decide
theorem take_at : ∀ (k : Fin 7) (i : Fin 6), i.val < k.val → (([0, 1, 2, 3, 4, 5] : List L).take k.val)[i.val]? = some ⟨i.val, by omega⟩ := by decide
theorem nm_snoc {N : List L} {z w : L} (h : w.val % 6 < N.length) : nm (N ++ [z]) w = nm N w := by
  have := w.isLt
  unfold nm
  by_cases hw : w.val < 6
  · rw [if_pos hw, if_pos hw, List.getD_eq_getElem?_getD, List.getD_eq_getElem?_getD, List.getElem?_append_left (by omega)]
  · rw [if_neg hw, if_neg hw, List.getD_eq_getElem?_getD, List.getD_eq_getElem?_getD, List.getElem?_append_left (by omega)]
theorem nm_last {N : List L} {z x : L} (h : x.val = N.length) (h6 : x.val < 6) : nm (N ++ [z]) x = z := by
  unfold nm
  rw [if_pos h6, List.getD_eq_getElem?_getD, h, List.getElem?_append_right (Nat.le_refl _), Nat.sub_self]
  rfl
theorem toS1_inj {x y : L} (h : toS [x] = toS [y]) : x = y := (List.cons.inj (toS_inj h)).1
abbrev s_names : Stmt := top 14
theorem sc_names : FnScope ["_law_tape_here", "_law_many", "_law_left", "_law_names", "_law_sign", "_law_name"] ["_law_tape_here", "_law_many"] (defScope s_names) := ⟨rfl, rfl, rfl, by decide +kernel, rfl, by decide +kernel, by decide +kernel⟩
theorem c_names (D : Df K mg "_law_other_names" s_names) (T : Bt K w mg aB) (F_draw : Fnc P w K mg base "_law_draw" ["_law_tape_here", "_law_many"] 1 spTDraw) (F_lback : Fnc P w K mg base "_law_back" ["_law_word"] 1 spBk) : Fnc P w K mg base "_law_other_names" ["_law_tape_here", "_law_many"] 2 spNames := by
  have sc := sc_names
  refine D.ok sc (fun _ _ _ _ _ _ us hl => match us, hl with | [_, _], _ => rfl) (fun vs H Q E h => ?_) (fun f cdv A outer s H vs Q E hr h => ?_)
  · obtain ⟨d, c, n, rfl, _⟩ := h
    rfl
  · obtain ⟨d, c, n, rfl, F, h1, h6, k⟩ := h
    have hu := hu_of hr
    have l16 := line16
    have e6 : ("abcdef" : Str).length = 6 := by decide +kernel
    have ez : Txt.slice ("abcdef" : Str) none (some (n : Int)) = toS (([0, 1, 2, 3, 4, 5] : List L).take n) := by
      rw [← small, slice_toS, cut_to _ (by omega), Int.toNat_natCast]
    refine ⟨_, (@pss_cons _ _ _ _ _ (@ps_set _ _ (2) _ _ _ _ sc.nd rfl (Or.inl rfl) (@pe_callTy _ _ _ _ _ _ _ _ _ (@call_list_signs _ rfl) (by rfl) T.list b_list (@pa_cons _ _ _ _ _ (@pe_slice _ _ _ _ _ _ _ _ _ _ sl_str pe_str po_none (@po_some _ _ _ (pv 1))) pa_nil (by rfl)) (by decide) (by decide) (by rfl) (by rfl)) (by rfl) (by first | exact .inl rfl | exact .inr rfl | assumption)) (@pss_cons _ _ _ _ _ (@ps_set _ _ (3) _ _ _ _ sc.nd rfl (Or.inl rfl) pe_dnewK (by rfl) (by first | exact .inl rfl | exact .inr rfl | assumption)) (@pss_cons _ _ _ _ _ (@ps_for _ _ _ _ _ _ _ _ PassesOwn.never rfl (@pi_str _ _ _ _ (@pe_slice _ _ _ _ _ _ _ _ _ _ sl_str pe_str po_none (@po_some _ _ _ (pv 1)))) (@pg_name _ _ (4) _ sc.nd rfl (Or.inl rfl) (by first | exact .inl rfl | exact .inr rfl | assumption)) (@pss_cons _ _ _ _ _ (@ps_set _ _ (5) _ _ _ _ sc.nd rfl (Or.inl rfl) (@pe_bm _ _ _ _ _ _ _ _ _ _ _ _ PySem.F.plainAttrs_list PySem.F.slot_list_pop PySem.F.type_list_pop mt_popAt (pv 2) (@pa_cons _ _ _ _ _ (@pe_fn _ _ _ _ _ _ _ _ _ _ _ F_draw hr (by decide) rfl (@pa_cons _ _ _ _ _ (pv 0) (@pa_cons _ _ _ _ _ (@pe_callB _ _ _ _ _ _ _ _ _ call_len_seq (by rfl) T.len PySem.boot_len (@pa_cons _ _ _ _ _ (pv 2) pa_nil (by rfl)) (by decide) (by decide) (by rfl) (by rfl)) pa_nil (by rfl)) (by rfl)) (by decide) (by rfl) (by rfl)) pa_nil (by rfl)) (by rfl) (by rfl) (by rfl) (by rfl) (by rfl)) (by rfl) (by first | exact .inl rfl | exact .inr rfl | assumption)) (@pss_cons _ _ _ _ _ (@ps_if _ _ _ _ _ _ _ _ (@pt_cmpR _ _ _ _ _ _ _ _ op_eq (@pe_fn _ _ _ _ _ _ _ _ _ _ _ F_draw hr (by decide) rfl (@pa_cons _ _ _ _ _ (pv 0) (@pa_cons _ _ _ _ _ pe_int pa_nil (by rfl)) (by rfl)) (by decide) (by rfl) (by rfl)) pe_int (nomark _)) (@pss_one _ _ _ (@ps_set _ _ (5) _ _ _ _ sc.nd rfl (Or.inl rfl) (@pe_bm0 _ _ _ _ _ _ _ _ _ PySem.F.plainAttrs_str PySem.F.slot_str_upper PySem.F.type_str_upper mt_upper (pv 5) (by rfl) (by rfl)) (by rfl) (by first | exact .inl rfl | exact .inr rfl | assumption))) pss_nil) (@pss_cons _ _ _ _ _ (@ps_dput _ _ _ _ _ _ _ _ _ hu (pv 3) (pv 4) (pv 5) rfl) (@pss_one _ _ _ (@ps_dput _ _ _ _ _ _ _ _ _ hu (pv 3) (@pe_bm0 _ _ _ _ _ _ _ _ _ PySem.F.plainAttrs_str PySem.F.slot_str_upper PySem.F.type_str_upper mt_upper (pv 4) (by rfl) (by rfl)) (@pe_fn _ _ _ _ _ _ _ _ _ _ _ F_lback hr (by decide) rfl (@pa_cons _ _ _ _ _ (pv 5) pa_nil (by rfl)) (by decide) (by rfl) (by rfl)) rfl))))) (by intro _ ; rfl)) (@pss_one _ _ _ (@ps_ret _ _ _ _ (pv 3)))))), ?_⟩
    refine ⟨_, rfl, _, rfl, _, rfl, by omega, ?_⟩
    rw [ez]
    refine ⟨_, rfl, (by rw [toS_length, List.length_take]; simp; omega), fun l hl => ?_⟩
    rw [signs_ones]
    have s1 : Same H (upd H l (.lst (ones (([0, 1, 2, 3, 4, 5] : List L).take n)))) := Same.new hl
    have f1 : (upd H l (.lst (ones (([0, 1, 2, 3, 4, 5] : List L).take n)))) l = some (.lst (ones (([0, 1, 2, 3, 4, 5] : List L).take n))) := upd_same
    generalize upd H l (.lst (ones (([0, 1, 2, 3, 4, 5] : List L).take n))) = H1 at s1 f1 ⊢
    intro a ha
    have la : a ≠ l := (ne_of_none f1 ha).symm
    have s2 : Same H1 (upd H1 a (.dK [])) := Same.new ha
    have f2 : (upd H1 a (.dK [])) a = some (.dK []) := upd_same
    have g2 := s2 _ _ f1
    have ha0 := none_of s1 ha
    have s2 := s1.trans s2
    generalize upd H1 a (.dK []) = H2 at s2 f2 g2 ⊢
    have ld : l ≠ d := F.ne hl
    have lc : l ≠ c := F.nec hl
    have ad : a ≠ d := F.ne ha0
    have ac : a ≠ c := F.nec ha0
    refine ⟨_, rfl, _, rfl, _, rfl, by omega, ?_⟩
    rw [ez]
    refine ⟨_, rfl, for_str (z := toS (([0, 1, 2, 3, 4, 5] : List L).take n)) (fun i σ H' => ∃ (v nme : Option V) (N left : List L), σ = [some (.ref d), some (.int (n : Int)), some (.ref l), some (.ref a), v, nme] ∧ H' l = some (.lst (ones left)) ∧ NmAt H' a N i ∧ N.length = i ∧ ((N.map fun x : L => x.val % 6) ++ left.map fun x : L => x.val).Perm (List.range n) ∧ Tp H' d c ∧ SameB d H H')
      ⟨none, none, [], ([0, 1, 2, 3, 4, 5] : List L).take n, rfl, g2, ⟨[], f2, Nat.le_refl _, fun x hx => absurd hx (by omega)⟩, rfl, (by rw [List.map_nil, List.nil_append]; rw [range_take ⟨n, by omega⟩]), F.same s2, s2.b⟩ ?_ ?_⟩
    · rintro i ch σ H3 hc ⟨v, nme, N, left, rfl, f3, m3, hN, pm, F3, sb3⟩
      obtain ⟨x, hx, e⟩ := sign_at hc
      rw [e]
      have hi : i < n := by
        have := (List.getElem?_eq_some_iff.mp hx).1
        rw [List.length_take] at this
        simp at this
        omega
      have hxi : x = ⟨i, by omega⟩ := by
        have := take_at ⟨n, by omega⟩ ⟨i, by omega⟩ hi
        rw [hx] at this
        exact Option.some.inj this
      have hll : left.length = n - i := by
        have := pm.length_eq
        rw [List.length_append, List.length_map, List.length_map, List.length_range] at this
        omega
      refine ⟨_, rfl, .inl ⟨rfl, _, SqL.of f3⟩, _, rfl, _, rfl, l, _, rfl, .inl (SqL.of f3), d, c, _, rfl, F3, by rw [ones_length]; omega, by rw [ones_length]; omega, fun r H4 r0 r1 F4 sb4 => ?_⟩
      rw [ones_length] at r1
      have f4 := sb4 _ _ ld f3
      have hrk : r.toNat < left.length := by omega
      have gy : left[r.toNat]? = some left[r.toNat] := List.getElem?_eq_getElem hrk
      generalize left[r.toNat] = y at gy
      refine ⟨l, _, r, r.toNat, tx [y], rfl, rfl, f4, by omega, by omega, (ixN_seq (by unfold ixN; rw [if_pos r0, if_pos (by rw [ones_length]; omega)])).1, (by unfold ones; rw [List.getElem?_map, gy]; rfl), ?_⟩
      rw [ones_erase]
      have s5 : SameB l H4 (upd H4 l (.lst (ones (left.eraseIdx r.toNat)))) := SameB.upd
      have f5 : (upd H4 l (.lst (ones (left.eraseIdx r.toNat)))) l = some (.lst (ones (left.eraseIdx r.toNat))) := upd_same
      generalize upd H4 l (.lst (ones (left.eraseIdx r.toNat))) = H5 at s5 f5 ⊢
      have F5 := F4.but ld lc s5
      have m5 : NmAt H5 a N i := (m3.at_ fun o e => sb4 _ _ ad e).at_ fun o e => s5 _ _ la e
      have sb5 : SameB d H H5 := fun b o n e => s5 _ _ (ne_of_none e hl) (sb4 _ _ n (sb3 _ _ n e))
      have hy6 : y.val < 6 := by
        have : y.val ∈ (N.map fun x : L => x.val % 6) ++ left.map fun x : L => x.val := List.mem_append.mpr (.inr (List.mem_map.mpr ⟨y, List.mem_of_getElem? gy, rfl⟩))
        have := List.mem_range.mp (pm.mem_iff.mp this)
        omega
      refine ⟨_, rfl, d, c, _, rfl, F5, by decide, by decide, fun t H6 t0 t1 F6 sb6 => ?_⟩
      have f6 := sb6 _ _ ld f5
      have m6 : NmAt H6 a N i := m5.at_ fun o e => sb6 _ _ ad e
      have sb6 := sb5.trans sb6
      have le := erase_perm gy
      obtain ⟨kvs, k1, k2, k3⟩ := m6.ex
      have fin : ∀ (z : L) (H8 : Hp), z.val % 6 = y.val → Same (upd H6 a (.dK (putK kvs (Sum.inr (toS [x])) (tx [z])))) H8 → (upd H8 a (.dK (putK (putK kvs (Sum.inr (toS [x])) (tx [z])) (Sum.inr (toS [inv x])) (tx [inv z])))) l = some (.lst (ones (left.eraseIdx r.toNat))) ∧
          NmAt (upd H8 a (.dK (putK (putK kvs (Sum.inr (toS [x])) (tx [z])) (Sum.inr (toS [inv x])) (tx [inv z])))) a (N ++ [z]) (i + 1) ∧ (N ++ [z]).length = i + 1 ∧ (((N ++ [z]).map fun x : L => x.val % 6) ++ (left.eraseIdx r.toNat).map fun x : L => x.val).Perm (List.range n) ∧
          Tp (upd H8 a (.dK (putK (putK kvs (Sum.inr (toS [x])) (tx [z])) (Sum.inr (toS [inv x])) (tx [inv z])))) d c ∧ SameB d H (upd H8 a (.dK (putK (putK kvs (Sum.inr (toS [x])) (tx [z])) (Sum.inr (toS [inv x])) (tx [inv z])))) := fun z H8 hz s8 => by
        have u1 : SameB a H6 (upd H6 a (.dK (putK kvs (Sum.inr (toS [x])) (tx [z])))) := SameB.upd
        have u2 : SameB a H8 (upd H8 a (.dK (putK (putK kvs (Sum.inr (toS [x])) (tx [z])) (Sum.inr (toS [inv x])) (tx [inv z])))) := SameB.upd
        refine ⟨u2 _ _ la.symm (s8 _ _ (u1 _ _ la.symm f6)), ⟨_, upd_same, ?_, fun w hw => ?_⟩, by rw [List.length_append, hN]; rfl, ?_, (((F6.but ad ac u1).same s8).but ad ac u2), fun b o n e => ?_⟩
        · have h1 := length_putK kvs (Sum.inr (toS [x]) : Key) (tx [z])
          have h2 := length_putK (putK kvs (Sum.inr (toS [x]) : Key) (tx [z])) (Sum.inr (toS [inv x]) : Key) (tx [inv z])
          omega
        · rw [valV_put, valV_put]
          have hl : nm (N ++ [z]) x = z := nm_last (by rw [hxi, hN]) (by rw [hxi]; show i < 6; omega)
          by_cases e1 : w = inv x
          · subst e1
            rw [if_pos rfl, nm_inv, hl]
          · rw [if_neg (fun e => e1 (toS1_inj (Sum.inr.inj e)))]
            by_cases e2 : w = x
            · subst e2
              rw [if_pos rfl, hl]
            · rw [if_neg (fun e => e2 (toS1_inj (Sum.inr.inj e)))]
              have hwi : w.val % 6 < i := by
                have : w.val % 6 ≠ i := fun q => by
                  have hx6 : x.val % 6 = i := by rw [hxi]; show i % 6 = i; omega
                  rcases same_or (q.trans hx6.symm) with h | h
                  · exact e2 h
                  · exact e1 h
                omega
              rw [k3 w hwi, nm_snoc (by omega)]
        · rw [List.map_append, List.append_assoc]
          refine List.Perm.trans ?_ pm
          refine List.Perm.append_left _ ?_
          have := (le.map fun x : L => x.val).symm
          rw [List.map_cons, ← hz] at this
          exact this
        · exact u2 _ _ (ne_of_none e ha0) (s8 _ _ (u1 _ _ (ne_of_none e ha0) (sb6 _ _ n e)))
      refine ⟨rfl, _, rfl, ite2 (fun h => ?_) (fun h => ?_)⟩
      · refine ⟨_, rfl, rfl, _, rfl, rfl, (by rw [toS_length]; show 1 ≤ 5592405; decide), ?_⟩
        rw [upper_one hy6]
        refine ⟨_, rfl, _, rfl, _, rfl, a, _, rfl, DPut.k (k := Sum.inr (toS [x])) k1 (by omega), ?_⟩
        refine ⟨_, rfl, [inv y], rfl, (by show 1 ≤ 5000; decide), fun H8 s8 => ?_⟩
        rw [bk_one]
        refine ⟨_, rfl, _, rfl, rfl, _, rfl, rfl, (by rw [toS_length]; show 1 ≤ 5592405; decide), ?_⟩
        rw [upper_one (by rw [hxi]; show i < 6; omega)]
        have q := fin (inv y) H8 (by rw [inv_mod]; omega) s8
        exact ⟨a, _, rfl, DPut.k (k := Sum.inr (toS [inv x])) (s8 _ _ upd_same) (Nat.lt_of_le_of_lt (length_putK _ _ _) (by omega)), _, _, N ++ [inv y], _, rfl, q⟩
      · refine ⟨_, rfl, _, rfl, _, rfl, a, _, rfl, DPut.k (k := Sum.inr (toS [x])) k1 (by omega), ?_⟩
        refine ⟨_, rfl, [y], rfl, (by show 1 ≤ 5000; decide), fun H8 s8 => ?_⟩
        rw [bk_one]
        refine ⟨_, rfl, _, rfl, rfl, _, rfl, rfl, (by rw [toS_length]; show 1 ≤ 5592405; decide), ?_⟩
        rw [upper_one (by rw [hxi]; show i < 6; omega)]
        have q := fin y H8 (by omega) s8
        exact ⟨a, _, rfl, DPut.k (k := Sum.inr (toS [inv x])) (s8 _ _ upd_same) (Nat.lt_of_le_of_lt (length_putK _ _ _) (by omega)), _, _, N ++ [y], _, rfl, q⟩
    · rintro σ H3 ⟨v, nme, N, left, rfl, f3, m3, hN, pm, F3, sb3⟩
      have ln : (toS (([0, 1, 2, 3, 4, 5] : List L).take n)).cps.size = n := by rw [toS_size, List.length_take]; simp; omega
      rw [ln] at m3 hN
      have : left = [] := by
        have := pm.length_eq
        rw [List.length_append, List.length_map, List.length_map, List.length_range] at this
        exact List.eq_nil_of_length_eq_zero (by omega)
      subst this
      rw [List.map_nil, List.append_nil] at pm
      exact ⟨_, rfl, k a _ N ha0 ⟨pm, h6⟩ m3 F3 sb3⟩
abbrev s_named : Stmt := top 15
theorem sc_named : FnScope ["_law_names", "_law_word"] ["_law_names", "_law_word"] (defScope s_named) := ⟨rfl, rfl, rfl, by decide +kernel, rfl, by decide +kernel, by decide +kernel⟩
theorem c_named (D : Df K mg "_law_named" s_named) (T : Bt K w mg aB) : Fnc P w K mg base "_law_named" ["_law_names", "_law_word"] 1 spNamed := by
  have sc := sc_named
  refine D.ok sc (fun _ _ _ _ _ _ us hl => match us, hl with | [_, _], _ => rfl) (fun vs H Q E h => ?_) (fun f cdv A outer s H vs Q E hr h => ?_)
  · obtain ⟨a, u, N, k, rfl, _⟩ := h
    rfl
  · obtain ⟨a, u, N, n, rfl, m, hin, hlen, k⟩ := h
    have hu := hu_of hr
    have l16 := line16
    obtain ⟨kvs, k1, k2, k3⟩ := m.ex
    refine ⟨_, (@pss_one _ _ _ (@ps_ret _ _ _ _ (@pe_bm _ _ _ _ _ _ _ _ _ _ _ _ PySem.F.plainAttrs_str PySem.F.slot_str_join PySem.F.type_str_join mt_join pe_str (@pa_cons _ _ _ _ _ (@pe_comp _ _ _ _ _ _ _ (["_law_sign", "_law_names"]) (["_law_sign"]) ([0]) _ _ _ _ (@blk_of _ _ _ _ _ _ rfl (by kernel_rfl)) rfl (@pi_str _ _ _ _ (pv 1)) (fun _ _ _ _ => @pg_name _ _ (0) _ (show (["_law_sign", "_law_names"] : List Str).Nodup from by decide +kernel) rfl (Or.inl rfl) (by first | exact .inl rfl | exact .inr rfl | assumption)) (fun _ _ _ _ => pifs_nil) (fun _ _ _ _ => by (exact (@pe_dget _ _ _ _ _ _ hu (pv 1) (pv 0) (fun _ _ => rfl)))) (by intro _ ; rfl)) pa_nil (by rfl)) (by rfl) (by rfl) (by rfl) (by rfl) (by rfl)))), ?_⟩
    refine ⟨rfl, _, rfl, _, rfl, ?_⟩
    refine comp_by (own := ["_law_sign"]) (cap := [0]) (J := Its (toS u)) u.length (fun i ys σ H' => H' = H ∧ ys = ones ((u.map (nm N)).take i) ∧ ∃ v, σ = [v, some (.ref a)]) ⟨rfl, rfl, none, rfl⟩ (fun i ys σ H' hi ⟨_, e, _⟩ => ?_) (by omega) (fun i ys σ H' hi _ => ?_) (fun ys σ H' _ => ?_) ?_ ?_
    · rw [e, ones_length, List.length_take]; omega
    · show i < (toS u).cps.size; rw [toS_size]; exact hi
    · show _ = (toS u).cps.size; rw [toS_size]
    · rintro i ys σ H1 x H2 M hi ⟨rfl, rfl, v, rfl⟩ ⟨rfl, c, hc, rfl⟩ hN
      obtain ⟨y, hy, e⟩ := sign_at hc
      rw [e]
      have hb : (u.map (nm N))[i]? = some (nm N y) := by rw [List.getElem?_map, hy]; rfl
      have g := DGet.k (k := Sum.inr (toS [y])) k1
      rw [k3 y (hin y (List.mem_of_getElem? hy))] at g
      exact ⟨_, rfl, _, rfl, a, _, rfl, g, hN _ _ _ ⟨rfl, by rw [take_snoc hb, ← ones_snoc], _, rfl⟩⟩
    · rintro ys σ H1 l ⟨rfl, rfl, v, rfl⟩ hl
      rw [List.take_of_length_le (by rw [List.length_map]; exact Nat.le_refl _)]
      refine ⟨_, l, (u.map (nm N)).map fun x => toS [x], rfl, rfl, SqL.of (by rw [upd_same, ones_str]), join_room _ (by rw [List.length_map]; omega), ?_⟩
      rw [join_ones]
      exact k _ (Same.new hl)
end
end Kx
set_option Elab.async false
set_option linter.all false
set_option maxRecDepth 100000
set_option maxHeartbeats 0
namespace Kx
open PySem PySem.Spec PyProof.Rows L2 Wd
section
variable {P : Program} {w : World} {K : PySem.W.Frag} {mg : Str → Option Value} {base : Heap} {aB : Addr}
theorem kit_ii {K : PySem.W.Frag} : PySem.W.kitOne K (.type "int") (.type "int") = some true := by unfold PySem.W.kitOne; rw [if_pos (by rfl)]
theorem kit_ib {K : PySem.W.Frag} : PySem.W.kitOne K (.type "int") (.type "bool") = some false := by kernel_rfl
theorem signsT_toS (w : List L) : signsT (toS w) = (w.map fun x => [x]).map toS := by
  unfold signsT
  rw [toS_cps, List.map_map, List.map_map]
  rfl
theorem dt_words {H : Hp} {p : Addr} {zs : List Str} {w : List L} (h : H p = some (.lst (zs.map V.str))) (pm : zs.Perm (signsT (toS w))) : ∃ Vs : List (List L), zs = Vs.map toS ∧ Dt H (.ref p) (.list (dws Vs)) := by
  rw [signsT_toS] at pm
  obtain ⟨Vs, _, e⟩ := perm_map_ex toS pm.symm _ rfl
  refine ⟨Vs, e, .lst h ?_⟩
  rw [e, List.map_map]
  exact dts_txs Vs
theorem lay_list (ws : List (List L)) : (PyData.list (dws ws)).canLay0 = true := by
  unfold PyData.canLay0
  exact lay_words ws
theorem flat_len {u : List L} (U : Srf u) : (hol u).flatten.length = u.length := (hol_dc U).pm.length_eq
theorem hol_le {u : List L} (U : Srf u) {w : List L} (hw : w ∈ hol u) : w ≠ [] ∧ w.length ≤ 12 := by
  refine ⟨((hol_dc U).cy w hw).ne, ?_⟩
  have h1 := List.Sublist.length_le (List.sublist_flatten_of_mem hw)
  have h2 := flat_len U
  have := U.le
  omega
theorem sum_toS : ∀ ws : List (List L), ((ws.map toS).map (·.length)).sum = ws.flatten.length
  | [] => rfl
  | w :: ws => by
    rw [List.map_cons, List.map_cons, List.sum_cons, sum_toS ws, List.flatten_cons, List.length_append, toS_length]
theorem prev_at {w : List L} {j : Nat} (hj : j < w.length) : ∃ z, atI (toS w).cps.toList ((j : Int) - 1) = some (cp z) ∧ Nx w z w[j] := by
  cases j with
  | zero =>
    obtain ⟨M, z, e⟩ : ∃ M z, w = M ++ [z] := by
      rcases List.eq_nil_or_concat w with h | ⟨M, z, h⟩
      · rw [h] at hj
        simp at hj
      · exact ⟨M, z, by rw [h, List.concat_eq_append]⟩
    refine ⟨z, ?_, nx_idx (k := w.length - 1) ?_ ?_⟩
    · have := at_neg M [] z
      rw [e]
      exact this
    · rw [e]
      simp
    · have : w.length - 1 + 1 = w.length := by omega
      rw [this, Nat.mod_self]
      exact List.getElem?_eq_getElem hj
  | succ j =>
    have h0 : w[j]? = some w[j] := List.getElem?_eq_getElem (by omega)
    refine ⟨w[j], atI_toS (k := j) (by omega) h0, nx_idx (k := j) h0 ?_⟩
    rw [Nat.mod_eq_of_lt hj]
    exact List.getElem?_eq_getElem hj
theorem depth_dws : ∀ ws : List (List L), PyData.depthAll (dws ws) ≤ 0
  | [] => Nat.le_refl _
  | w :: ws => by
    have := depth_dws ws
    show max (PyData.depth (.str (toS w))) (PyData.depthAll (dws ws)) ≤ 0
    have : PyData.depth (.str (toS w)) = 0 := rfl
    omega
abbrev s_right : Stmt := top 16
theorem sc_right : FnScope ["_law_surface", "_law_words", "_law_word", "_law_told"] ["_law_surface", "_law_words"] (defScope s_right) := ⟨rfl, rfl, rfl, by decide +kernel, rfl, by decide +kernel, by decide +kernel⟩
theorem c_right (D : Df K mg "_law_words_right" s_right) (T : Bt K w mg aB) (Tbool : mg "bool" = none) (F_lback : Fnc P w K mg base "_law_back" ["_law_word"] 1 spBk) (F_handles : Fnc P w K mg base "handles" ["surface"] 4 spHandles) : Fnc P w K mg base "_law_words_right" ["_law_surface", "_law_words"] 5 spRight32 := by
  have sc := sc_right
  refine D.ok sc (fun _ _ _ _ _ _ us hl => match us, hl with | [_, _], _ => rfl) (fun vs H Q E h => ?_) (fun f cdv A outer s H vs Q E hr h => ?_)
  · obtain ⟨u, l, rfl, _⟩ := h
    rfl
  · obtain ⟨u, l, rfl, U, hl, k⟩ := h
    have hu := hu_of hr
    have l16 := line16
    have h12 := U.le
    have fl := flat_len U
    have hh : (hol u).length ≤ u.length := hol_len u u.length
    refine ⟨_, (@pss_cons _ _ _ _ _ (@ps_if _ _ _ _ _ _ _ _ (@PW.pt _ _ _ (@pw_or _ _ _ _ _ _ _ (@pt_cmpR _ _ _ _ _ _ _ _ (@op_ne_dat _ (by exact hr.units)) (@pe_callB _ _ _ _ _ _ _ _ _ (@call_sorted_text _ rfl) (by rfl) T.sorted b_sorted (@pa_cons _ _ _ _ _ (@pe_bm _ _ _ _ _ _ _ _ _ _ _ _ PySem.F.plainAttrs_str PySem.F.slot_str_join PySem.F.type_str_join mt_join pe_str (@pa_cons _ _ _ _ _ (pv 1) pa_nil (by rfl)) (by rfl) (by rfl) (by rfl) (by rfl) (by rfl)) pa_nil (by rfl)) (by decide) (by decide) (by rfl) (by rfl)) (@pe_callB _ _ _ _ _ _ _ _ _ (@call_sorted_text _ rfl) (by rfl) T.sorted b_sorted (@pa_cons _ _ _ _ _ (pv 0) pa_nil (by rfl)) (by decide) (by decide) (by rfl) (by rfl)) (nomark _)) (@pw_or1 _ _ _ _ (@pt_cmpR _ _ _ _ _ _ _ _ op_in_seq pe_str (pv 1) rfl)))) (@pss_one _ _ _ (@ps_ret _ _ _ _ pe_bl)) pss_nil) (@pss_cons _ _ _ _ _ (@ps_for _ _ _ _ _ _ _ _ PassesOwn.never rfl (@pi_list _ _ _ _ (pv 1)) (@pg_name _ _ (2) _ sc.nd rfl (Or.inr rfl) (by first | exact .inl rfl | exact .inr rfl | assumption)) (@pss_one _ _ _ (@ps_if _ _ _ _ _ _ _ _ (@pt_cmpR _ _ _ _ _ _ _ _ (@op_ne_nil _ (by exact hr.units)) (@pe_comp _ _ _ _ _ _ _ (["_law_k", "_law_word"]) (["_law_k"]) ([2]) _ _ _ _ (@blk_of _ _ _ _ _ _ rfl (by kernel_rfl)) rfl (@pi_range1 _ _ _ _ _ _ rfl T.range (@pa_cons _ _ _ _ _ (@pe_callB _ _ _ _ _ _ _ _ _ call_len_str (by rfl) T.len PySem.boot_len (@pa_cons _ _ _ _ _ (pv 2) pa_nil (by rfl)) (by decide) (by decide) (by rfl) (by rfl)) pa_nil (by rfl)) (by rfl)) (fun _ _ _ _ => @pg_name _ _ (0) _ (show (["_law_k", "_law_word"] : List Str).Nodup from by decide +kernel) rfl (Or.inl rfl) (by first | exact .inl rfl | exact .inr rfl | assumption)) (fun _ _ _ _ => (@pifs_one _ _ _ (by exact (@pt_cmpR _ _ _ _ _ _ _ _ op_eq (@pe_ix _ _ _ _ _ _ _ ix_str (pv 1) (pv 0) (fun _ _ => rfl)) (@pe_fn _ _ _ _ _ _ _ _ _ _ _ F_lback hr (by decide) rfl (@pa_cons _ _ _ _ _ (@pe_ix _ _ _ _ _ _ _ ix_str (pv 1) (@pe_op _ _ _ _ _ _ _ _ op_sub (pv 0) pe_int) (fun _ _ => rfl)) pa_nil (by rfl)) (by decide) (by rfl) (by rfl)) (nomark _))))) (fun _ _ _ _ => by (exact (pv 0))) (by intro _ ; rfl)) (@pe_lst _ _ _ _ pa_nil) (nomark _)) (@pss_one _ _ _ (@ps_ret _ _ _ _ pe_bl)) pss_nil)) (by intro _ ; rfl)) (@pss_cons _ _ _ _ _ (@ps_set _ _ (3) _ _ _ _ sc.nd rfl (Or.inl rfl) (@pe_fn _ _ _ _ _ _ _ _ _ _ _ F_handles hr (by decide) rfl (@pa_cons _ _ _ _ _ (pv 0) pa_nil (by rfl)) (by decide) (by rfl) (by rfl)) (by rfl) (by first | exact .inl rfl | exact .inr rfl | assumption)) (@pss_cons _ _ _ _ _ (@ps_if _ _ _ _ _ _ _ _ (@PW.pt _ _ _ (@pw_or _ _ _ _ _ _ _ (@pt_not _ _ _ _ (@pt_truth _ _ _ (@pe_callB _ _ _ _ _ _ _ _ _ (@call_isK _ (K) rfl) (by rfl) T.isinstance b_isinstance (@pa_cons _ _ _ _ _ (pv 3) (@pa_cons _ _ _ _ _ (@pe_bltn _ _ (.ty "int") _ _ rfl T.int b_int rfl (by decide) (by decide)) pa_nil (by rfl)) (by rfl)) (by decide) (by decide) (by rfl) (by rfl)) (fun _ => rfl))) (@pw_or _ _ _ _ _ _ _ (@pt_truth _ _ _ (@pe_callB _ _ _ _ _ _ _ _ _ (@call_isK _ (K) rfl) (by rfl) T.isinstance b_isinstance (@pa_cons _ _ _ _ _ (pv 3) (@pa_cons _ _ _ _ _ (@pe_bltn _ _ (.ty "bool") _ _ rfl Tbool b_bool rfl (by decide) (by decide)) pa_nil (by rfl)) (by rfl)) (by decide) (by decide) (by rfl) (by rfl)) (fun _ => rfl)) (@pw_or1 _ _ _ _ (@pt_cmpR _ _ _ _ _ _ _ _ op_lt (pv 3) pe_int (nomark _)))))) (@pss_one _ _ _ (@ps_ret _ _ _ _ pe_bl)) pss_nil) (@pss_one _ _ _ (@ps_ret _ _ _ _ (@pe_cmpR _ _ _ _ _ _ _ _ op_eq (@pe_op _ _ _ _ _ _ _ _ op_add (@pe_op _ _ _ _ _ _ _ _ op_mul pe_int (pv 3)) (@pe_callB _ _ _ _ _ _ _ _ _ call_len_seq (by rfl) T.len PySem.boot_len (@pa_cons _ _ _ _ _ (pv 1) pa_nil (by rfl)) (by decide) (by decide) (by rfl) (by rfl))) (@pe_op _ _ _ _ _ _ _ _ op_add pe_int (@pe_op _ _ _ _ _ _ _ _ op_fdiv (@pe_callB _ _ _ _ _ _ _ _ _ call_len_str (by rfl) T.len PySem.boot_len (@pa_cons _ _ _ _ _ (pv 0) pa_nil (by rfl)) (by decide) (by decide) (by rfl) (by rfl)) pe_int)) (nomark _)))))))), ?_⟩
    refine ⟨rfl, _, rfl, _, l, (hol u).map toS, rfl, rfl, SqL.of (by rw [hl, List.map_map]; rfl), ?_, ?_⟩
    · rw [sum_toS, fl]
      show u.length + ((hol u).map toS).length * 0 ≤ 16777216
      omega
    rw [join_flat]
    refine ⟨_, rfl, by rw [toS_length]; omega, fun p zs hp pm so => ?_⟩
    have s1 : Same H (upd H p (.lst (zs.map V.str))) := Same.new hp
    have f1 : (upd H p (.lst (zs.map V.str))) p = some (.lst (zs.map V.str)) := upd_same
    generalize upd H p (.lst (zs.map V.str)) = H1 at s1 f1 ⊢
    refine ⟨_, rfl, _, rfl, by rw [toS_length]; omega, fun q ys hq pm2 so2 => ?_⟩
    have s2 : Same H1 (upd H1 q (.lst (ys.map V.str))) := Same.new hq
    have f2 : (upd H1 q (.lst (ys.map V.str))) q = some (.lst (ys.map V.str)) := upd_same
    generalize upd H1 q (.lst (ys.map V.str)) = H2 at s2 f2 ⊢
    have e : zs = ys := sorted_one so so2 (pm.trans ((signs_perm.mpr (by rw [toS_cps, toS_cps]; exact (hol_dc U).pm.map cp)).trans pm2.symm))
    subst e
    obtain ⟨Vs, e1, d1⟩ := dt_words (s2 _ _ f1) pm
    obtain ⟨Vs2, e2, d2⟩ := dt_words f2 pm2
    have e3 : Vs = Vs2 := (List.map_inj_right (fun _ _ e => toS_inj e)).mp (e1.symm.trans e2)
    subst e3
    refine ⟨_, _, d1, d2, lay_list Vs, lay_list Vs, ?_, ?_⟩
    · show PyData.depthAll (dws Vs) + 1 ≤ 10
      have := depth_dws Vs
      omega
    rw [SeqAt.eqv_refl _ (lay_list Vs)]
    have s2 := s1.trans s2
    refine ⟨_, rfl, iteD rfl ?_⟩
    refine ⟨_, rfl, l, _, rfl, .inl (SqL.of (s2 _ _ hl)), rfl, ?_, ?_⟩
    · rw [List.all_map]
      exact List.all_eq_true.mpr fun _ _ => rfl
    have nin : inV (V.str ("" : Str)) ((hol u).map tx) = false := by
      unfold inV
      rw [List.any_map, List.any_eq_false]
      intro w hw
      have hne := (hol_le U hw).1
      show ¬ eqV (tx w) (V.str ("" : Str)) = true
      rw [← tx_nil]
      intro e
      have e : toS w = toS [] := by simpa [eqV, tx] using e
      exact hne (toS_inj e)
    refine ⟨_, rfl, iteD (by rw [if_neg (by decide)]; exact nin) ?_⟩
    refine ⟨_, rfl, l, rfl, ⟨_, SqL.of (s2 _ _ hl)⟩, for_list (xs := (hol u).map tx) (fun i σ H' => ∃ v : Option V, σ = [some (tx u), some (.ref l), v, none] ∧ Same H H') ⟨none, rfl, s2⟩ (fun i σ H' _ ⟨v, _, s3⟩ => SqL.of (s3 _ _ hl)) ?_ ?_⟩
    · rintro i x σ H3 hx ⟨v, rfl, s3⟩
      rw [List.getElem?_map] at hx
      obtain ⟨w, hw, rfl⟩ := Option.map_eq_some_iff.mp hx
      have hwm := List.mem_of_getElem? hw
      obtain ⟨wne, wle⟩ := hol_le U hwm
      have wp := List.length_pos_iff.mpr wne
      have hwl : (toS w).length ≤ sizeLine := by rw [toS_length]; omega
      refine ⟨_, rfl, _, rfl, hwl, _, rfl, by rw [toS_length]; omega, by rw [toS_length]; omega, ?_⟩
      rw [Int.toNat_natCast, toS_length]
      refine comp_by (own := ["_law_k"]) (cap := [2]) (J := Itr 0 w.length) w.length (fun i ys σ H' => ∃ v : Option V, σ = [v, some (tx w)] ∧ ys = [] ∧ Same H H') ⟨none, rfl, rfl, s3⟩
        (fun i ys σ H' hi ⟨v, _, e, _⟩ => by rw [e]; exact Nat.zero_le _) (by omega) (fun i ys σ H' hi _ => hi) (fun ys σ H' _ => Nat.le_refl _) ?_ ?_
      · rintro j ys σ H4 x H5 N hj ⟨v, rfl, rfl, s4⟩ ⟨rfl, rfl⟩ hN
        rw [Int.zero_add]
        have hy : w[j]? = some w[j] := List.getElem?_eq_getElem hj
        obtain ⟨z, hz, nz⟩ := prev_at hj
        refine ⟨_, rfl, _, rfl, _, _, cp w[j], rfl, rfl, hwl, atI_toS (k := j) rfl hy, _, rfl, _, rfl, _, _, rfl, rfl, _, _, cp z, rfl, rfl, hwl, hz, [z], rfl, (by show 1 ≤ 5000; decide), fun H6 s6 => ?_⟩
        rw [bk_one]
        refine ⟨rfl, _, rfl, iteD (decide_eq_false fun e => ?_) (hN _ _ _ ⟨_, rfl, rfl, s4.trans s6⟩)⟩
        have e : tx [w[j]] = tx [inv z] := e
        exact hol_round U hwm nz (List.cons.inj (tx_inj e)).1
      · rintro ys σ H4 q ⟨v, rfl, rfl, s4⟩ hq
        refine ⟨(by show 0 ≤ sizeLine; omega), fun o ho => ?_⟩
        have fq := (Same.new (o := .lst []) ho) q _ upd_same
        refine ⟨q, o, [], rfl, rfl, fq, upd_same, _, rfl, iteD rfl ?_⟩
        exact ⟨_, rfl, (s4.trans (Same.new hq)).trans (Same.new ho)⟩
    · rintro σ H3 ⟨v, rfl, s3⟩
      obtain ⟨m, hm⟩ := hol_par U
      have ht : (1 + (u.length : Int) / 2 - ((hol u).length : Int)) / 2 = (m : Int) := by omega
      refine ⟨_, rfl, u, rfl, U, fun H4 s4 => ?_⟩
      rw [ht]
      refine ⟨_, rfl, _, _, _, _, rfl, .int _, kit_ii, true, rfl, iteD rfl ?_⟩
      refine ⟨_, rfl, _, _, _, _, rfl, .int _, kit_ib, false, rfl, iteD rfl ?_⟩
      refine ⟨_, rfl, _, _, rfl, rfl, _, rfl, iteD (decide_eq_false (by omega)) ?_⟩
      refine ⟨_, rfl, _, _, rfl, rfl, (Or.inl ⟨by decide, by decide⟩), _, rfl, l, _, rfl, .inl (SqL.of (s4 _ _ (s3 _ _ hl))), _, _, rfl, rfl, _, rfl, _, rfl, (by rw [toS_length]; omega), _, _, rfl, rfl, ⟨by decide, by decide⟩, _, _, rfl, rfl, rfl, ?_⟩
      have e : (V.int (2 * (m : Int) + (((hol u).map tx).length : Int)) = V.int (1 + ((toS u).length : Int) / 2)) := congrArg V.int (by rw [List.length_map, toS_length]; omega)
      show Q (V.bl (decide (V.int (2 * (m : Int) + (((hol u).map tx).length : Int)) = V.int (1 + ((toS u).length : Int) / 2)))) H4
      rw [decide_eq_true e]
      exact k _ (s3.trans s4)
end
end Kx
set_option Elab.async false
set_option linter.all false
set_option maxRecDepth 100000
set_option maxHeartbeats 0
namespace Kx
open PySem PySem.Spec PyProof.Rows L2 Wd
def spLaw (K : PySem.W.Frag) : Sp := fun vs H Q _ => ∃ (a : Addr) (ns : List Int), vs = [.ref a] ∧ SqL K H a (ns.map V.int) ∧ ns.length ≤ 63 ∧ ∀ H', Q (.bl true) H'
section
variable {P : Program} {w : World} {K : PySem.W.Frag} {mg : Str → Option Value} {base : Heap} {aB : Addr}
theorem bk_mem_len {W : List (List L)} (h : ∀ w ∈ W, w ≠ [] ∧ w.length ≤ 2000) : ∀ w ∈ W.map bk, w ≠ [] ∧ w.length ≤ 2000 := fun w hw => by
  obtain ⟨v, hv, rfl⟩ := List.mem_map.mp hw
  refine ⟨fun e => (h v hv).1 (by rw [← bk_bk v, e]; rfl), by rw [bk_length]; exact (h v hv).2⟩
theorem map_mem_len {W : List (List L)} {f : L → L} (h : ∀ w ∈ W, w ≠ [] ∧ w.length ≤ 2000) : ∀ w ∈ W.map (List.map f), w ≠ [] ∧ w.length ≤ 2000 := fun w hw => by
  obtain ⟨v, hv, rfl⟩ := List.mem_map.mp hw
  exact ⟨by simpa using (h v hv).1, by rw [List.length_map]; exact (h v hv).2⟩
theorem hol_ok {u : List L} (U : Srf u) : ∀ w ∈ hol u, w ≠ [] ∧ w.length ≤ 2000 := fun w hw => ⟨(hol_le U hw).1, by have := (hol_le U hw).2; omega⟩
theorem hol_64 {u : List L} (U : Srf u) : (hol u).length < 64 := by
  have : (hol u).length ≤ u.length := hol_len u u.length
  have := U.le
  omega
theorem ne_same {H : Hp} {p q : Addr} {Q : VK} (Vs : List (List L)) (h1 : H p = some (.lst (Vs.map tx))) (h2 : H q = some (.lst (Vs.map tx))) (h : Q (.bl false) H) : rNeD (.ref p) (.ref q) H Q := by
  refine ⟨_, _, .lst h1 (dts_txs Vs), .lst h2 (dts_txs Vs), lay_list Vs, lay_list Vs, ?_, ?_⟩
  · show PyData.depthAll (dws Vs) + 1 ≤ 10
    have := depth_dws Vs
    omega
  rw [SeqAt.eqv_refl _ (lay_list Vs)]
  exact h
abbrev s_law : Stmt := top 17
theorem sc_law : FnScope ["_law_script", "_law_tape_here", "_law_k", "_law_surface", "_law_words", "_law_due", "_law_at", "_law_names", "_law_other", "_law_named_here"] ["_law_script"] (defScope s_law) := ⟨rfl, rfl, rfl, by decide +kernel, rfl, by decide +kernel, by decide +kernel⟩
theorem c_law {f : Addr} {fd : FuncData} (D : Fun K "law" "law" s_law f fd) (T : Bt K w mg aB) (F_tape : Fnc P w K mg base "_law_tape" ["_law_script"] 1 (spTape K)) (F_draw : Fnc P w K mg base "_law_draw" ["_law_tape_here", "_law_many"] 1 spTDraw) (F_row : Fnc P w K mg base "_law_any_row" ["_law_tape_here", "_law_most"] 2 spRowK)
    (F_lback : Fnc P w K mg base "_law_back" ["_law_word"] 1 spBk) (F_holes : Fnc P w K mg base "holes" ["surface"] 3 spHoles) (F_handles : Fnc P w K mg base "handles" ["surface"] 4 spHandles) (F_up : Fnc P w K mg base "_law_round_up" ["_law_words"] 2 spUp)
    (F_names : Fnc P w K mg base "_law_other_names" ["_law_tape_here", "_law_many"] 2 spNames) (F_named : Fnc P w K mg base "_law_named" ["_law_names", "_law_word"] 1 spNamed) (F_right : Fnc P w K mg base "_law_words_right" ["_law_surface", "_law_words"] 5 spRight32) : FnOk P w K mg base CX0 6 f fd ["_law_script"] (spLaw K) := by
  have sc := sc_law
  refine D.ok sc (fun vs H Q E h => ?_) (fun cdv A outer s H vs Q E hr h => ?_)
  · obtain ⟨a, ns, rfl, _⟩ := h
    rfl
  · obtain ⟨a, ns, rfl, hS, hlen, k⟩ := h
    have l16 := line16
    refine ⟨_, (@pss_cons _ _ _ _ _ (@ps_set _ _ (1) _ _ _ _ sc.nd rfl (Or.inl rfl) (@pe_fn _ _ _ _ _ _ _ _ _ _ _ F_tape hr (by decide) rfl (@pa_cons _ _ _ _ _ (pv 0) pa_nil (by rfl)) (by decide) (by rfl) (by rfl)) (by rfl) (by first | exact .inl rfl | exact .inr rfl | assumption)) (@pss_cons _ _ _ _ _ (@ps_for _ _ _ _ _ _ _ _ PassesOwn.never rfl (@pi_range1 _ _ _ _ _ _ rfl T.range (@pa_cons _ _ _ _ _ pe_int pa_nil (by rfl)) (by rfl)) (@pg_name _ _ (2) _ sc.nd rfl (Or.inl rfl) (by first | exact .inl rfl | exact .inr rfl | assumption)) (@pss_cons _ _ _ _ _ (@ps_set _ _ (3) _ _ _ _ sc.nd rfl (Or.inl rfl) (@pe_fn _ _ _ _ _ _ _ _ _ _ _ F_row hr (by decide) rfl (@pa_cons _ _ _ _ _ (pv 1) (@pa_cons _ _ _ _ _ pe_int pa_nil (by rfl)) (by rfl)) (by decide) (by rfl) (by rfl)) (by rfl) (by first | exact .inl rfl | exact .inr rfl | assumption)) (@pss_cons _ _ _ _ _ (@ps_set _ _ (4) _ _ _ _ sc.nd rfl (Or.inl rfl) (@pe_fn _ _ _ _ _ _ _ _ _ _ _ F_holes hr (by decide) rfl (@pa_cons _ _ _ _ _ (pv 3) pa_nil (by rfl)) (by decide) (by rfl) (by rfl)) (by rfl) (by first | exact .inl rfl | exact .inr rfl | assumption)) (@pss_cons _ _ _ _ _ (@ps_if _ _ _ _ _ _ _ _ (@pt_not _ _ _ _ (@pt_truth _ _ _ (@pe_fn _ _ _ _ _ _ _ _ _ _ _ F_right hr (by decide) rfl (@pa_cons _ _ _ _ _ (pv 3) (@pa_cons _ _ _ _ _ (pv 4) pa_nil (by rfl)) (by rfl)) (by decide) (by rfl) (by rfl)) (fun _ => rfl))) (@pss_one _ _ _ (@ps_ret _ _ _ _ pe_bl)) pss_nil) (@pss_cons _ _ _ _ _ (@ps_set _ _ (5) _ _ _ _ sc.nd rfl (Or.inl rfl) (@pe_fn _ _ _ _ _ _ _ _ _ _ _ F_up hr (by decide) rfl (@pa_cons _ _ _ _ _ (pv 4) pa_nil (by rfl)) (by decide) (by rfl) (by rfl)) (by rfl) (by first | exact .inl rfl | exact .inr rfl | assumption)) (@pss_cons _ _ _ _ _ (@ps_set _ _ (6) _ _ _ _ sc.nd rfl (Or.inl rfl) (@pe_fn _ _ _ _ _ _ _ _ _ _ _ F_draw hr (by decide) rfl (@pa_cons _ _ _ _ _ (pv 1) (@pa_cons _ _ _ _ _ (@pe_callB _ _ _ _ _ _ _ _ _ call_len_str (by rfl) T.len PySem.boot_len (@pa_cons _ _ _ _ _ (pv 3) pa_nil (by rfl)) (by decide) (by decide) (by rfl) (by rfl)) pa_nil (by rfl)) (by rfl)) (by decide) (by rfl) (by rfl)) (by rfl) (by first | exact .inl rfl | exact .inr rfl | assumption)) (@pss_cons _ _ _ _ _ (@ps_set _ _ (7) _ _ _ _ sc.nd rfl (Or.inr rfl) (@pe_fn _ _ _ _ _ _ _ _ _ _ _ F_names hr (by decide) rfl (@pa_cons _ _ _ _ _ (pv 1) (@pa_cons _ _ _ _ _ (@pe_op _ _ _ _ _ _ _ _ op_fdiv (@pe_callB _ _ _ _ _ _ _ _ _ call_len_str (by rfl) T.len PySem.boot_len (@pa_cons _ _ _ _ _ (pv 3) pa_nil (by rfl)) (by decide) (by decide) (by rfl) (by rfl)) pe_int) pa_nil (by rfl)) (by rfl)) (by decide) (by rfl) (by rfl)) (by rfl) (by first | exact .inl rfl | exact .inr rfl | assumption)) (@pss_cons _ _ _ _ _ (@ps_if _ _ _ _ _ _ _ _ (@pt_cmpR _ _ _ _ _ _ _ _ (@op_ne_dat _ (by exact hr.units)) (@pe_fn _ _ _ _ _ _ _ _ _ _ _ F_up hr (by decide) rfl (@pa_cons _ _ _ _ _ (@pe_fn _ _ _ _ _ _ _ _ _ _ _ F_holes hr (by decide) rfl (@pa_cons _ _ _ _ _ (@pe_op _ _ _ _ _ _ _ _ op_add_str (@pe_slice _ _ _ _ _ _ _ _ _ _ sl_str (pv 3) (@po_some _ _ _ (pv 6)) po_none) (@pe_slice _ _ _ _ _ _ _ _ _ _ sl_str (pv 3) po_none (@po_some _ _ _ (pv 6)))) pa_nil (by rfl)) (by decide) (by rfl) (by rfl)) pa_nil (by rfl)) (by decide) (by rfl) (by rfl)) (pv 5) (nomark _)) (@pss_one _ _ _ (@ps_ret _ _ _ _ pe_bl)) pss_nil) (@pss_cons _ _ _ _ _ (@ps_if _ _ _ _ _ _ _ _ (@pt_cmpR _ _ _ _ _ _ _ _ (@op_ne_dat _ (by exact hr.units)) (@pe_fn _ _ _ _ _ _ _ _ _ _ _ F_up hr (by decide) rfl (@pa_cons _ _ _ _ _ (@pe_fn _ _ _ _ _ _ _ _ _ _ _ F_holes hr (by decide) rfl (@pa_cons _ _ _ _ _ (@pe_revS _ _ _ _ _ _ _ (pv 3) (@pe_un _ _ _ _ _ _ un_neg pe_int)) pa_nil (by rfl)) (by decide) (by rfl) (by rfl)) pa_nil (by rfl)) (by decide) (by rfl) (by rfl)) (@pe_fn _ _ _ _ _ _ _ _ _ _ _ F_up hr (by decide) rfl (@pa_cons _ _ _ _ _ (@pe_comp _ _ _ _ _ _ _ (["_law_word"]) (["_law_word"]) ([]) _ _ _ _ (@blk_of _ _ _ _ _ _ rfl (by kernel_rfl)) rfl (@pi_list _ _ _ _ (pv 4)) (fun _ _ _ _ => @pg_name _ _ (0) _ (show (["_law_word"] : List Str).Nodup from by decide +kernel) rfl (Or.inl rfl) (by first | exact .inl rfl | exact .inr rfl | assumption)) (fun _ _ _ _ => pifs_nil) (fun _ _ _ _ => by (exact (@pe_fn _ _ _ _ _ _ _ _ _ _ _ F_lback hr (by decide) rfl (@pa_cons _ _ _ _ _ (pv 0) pa_nil (by rfl)) (by decide) (by rfl) (by rfl)))) (by intro _ ; rfl)) pa_nil (by rfl)) (by decide) (by rfl) (by rfl)) (nomark _)) (@pss_one _ _ _ (@ps_ret _ _ _ _ pe_bl)) pss_nil) (@pss_cons _ _ _ _ _ (@ps_set _ _ (8) _ _ _ _ sc.nd rfl (Or.inl rfl) (@pe_fn _ _ _ _ _ _ _ _ _ _ _ F_named hr (by decide) rfl (@pa_cons _ _ _ _ _ (pv 7) (@pa_cons _ _ _ _ _ (pv 3) pa_nil (by rfl)) (by rfl)) (by decide) (by rfl) (by rfl)) (by rfl) (by first | exact .inl rfl | exact .inr rfl | assumption)) (@pss_cons _ _ _ _ _ (@ps_setC _ (9) _ _ _ _ _ _ _ _ _ (["_law_word", "_law_names"]) (["_law_word"]) ([7]) _ _ _ _ sc.nd rfl (Or.inl rfl) (@blk_of _ _ _ _ _ _ rfl (by kernel_rfl)) rfl (@pi_list _ _ _ _ (pv 4)) (fun _ _ _ _ => @pg_name _ _ (0) _ (show (["_law_word", "_law_names"] : List Str).Nodup from by decide +kernel) rfl (Or.inl rfl) (by first | exact .inl rfl | exact .inr rfl | assumption)) (fun _ _ _ _ => pifs_nil) (fun _ _ _ _ => by (exact (@pe_fn _ _ _ _ _ _ _ _ _ _ _ F_named hr (by decide) rfl (@pa_cons _ _ _ _ _ (pv 1) (@pa_cons _ _ _ _ _ (pv 0) pa_nil (by rfl)) (by rfl)) (by decide) (by rfl) (by rfl)))) (by intro _ ; rfl) (by rfl) (by first | exact .inl rfl | exact .inr rfl | assumption)) (@pss_cons _ _ _ _ _ (@ps_if _ _ _ _ _ _ _ _ (@pt_cmpR _ _ _ _ _ _ _ _ (@op_ne_dat _ (by exact hr.units)) (@pe_fn _ _ _ _ _ _ _ _ _ _ _ F_up hr (by decide) rfl (@pa_cons _ _ _ _ _ (@pe_fn _ _ _ _ _ _ _ _ _ _ _ F_holes hr (by decide) rfl (@pa_cons _ _ _ _ _ (pv 8) pa_nil (by rfl)) (by decide) (by rfl) (by rfl)) pa_nil (by rfl)) (by decide) (by rfl) (by rfl)) (@pe_fn _ _ _ _ _ _ _ _ _ _ _ F_up hr (by decide) rfl (@pa_cons _ _ _ _ _ (pv 9) pa_nil (by rfl)) (by decide) (by rfl) (by rfl)) (nomark _)) (@pss_one _ _ _ (@ps_ret _ _ _ _ pe_bl)) pss_nil) (@pss_one _ _ _ (@ps_if _ _ _ _ _ _ _ _ (@PW.pt _ _ _ (@pw_or _ _ _ _ _ _ _ (@pt_cmpR _ _ _ _ _ _ _ _ op_ne (@pe_fn _ _ _ _ _ _ _ _ _ _ _ F_handles hr (by decide) rfl (@pa_cons _ _ _ _ _ (pv 8) pa_nil (by rfl)) (by decide) (by rfl) (by rfl)) (@pe_fn _ _ _ _ _ _ _ _ _ _ _ F_handles hr (by decide) rfl (@pa_cons _ _ _ _ _ (pv 3) pa_nil (by rfl)) (by decide) (by rfl) (by rfl)) (nomark _)) (@pw_or1 _ _ _ _ (@pt_cmpR _ _ _ _ _ _ _ _ op_ne (@pe_fn _ _ _ _ _ _ _ _ _ _ _ F_handles hr (by decide) rfl (@pa_cons _ _ _ _ _ (@pe_revS _ _ _ _ _ _ _ (pv 3) (@pe_un _ _ _ _ _ _ un_neg pe_int)) pa_nil (by rfl)) (by decide) (by rfl) (by rfl)) (@pe_fn _ _ _ _ _ _ _ _ _ _ _ F_handles hr (by decide) rfl (@pa_cons _ _ _ _ _ (pv 3) pa_nil (by rfl)) (by decide) (by rfl) (by rfl)) (nomark _))))) (@pss_one _ _ _ (@ps_ret _ _ _ _ pe_bl)) pss_nil))))))))))))) (by intro _ ; rfl)) (@pss_one _ _ _ (@ps_ret _ _ _ _ pe_bl)))), ?_⟩
    refine ⟨_, rfl, a, ns, rfl, hS, hlen, fun d c H1 _ _ F1 _ => ?_⟩
    refine ⟨_, rfl, by decide, by decide, for_range (lo := 0) (n := 6) (fun i σ H' => ∃ (b1 b2 b3 b4 b5 b6 b7 b8 : Option V), σ = [some (.ref a), some (.ref d), b1, b2, b3, b4, b5, b6, b7, b8] ∧ Tp H' d c) ⟨none, none, none, none, none, none, none, none, rfl, F1⟩ ?_ ?_⟩
    · rintro i σ H1 hi ⟨b1, b2, b3, b4, b5, b6, b7, b8, rfl, F1⟩
      refine ⟨_, rfl, d, c, _, rfl, F1, by decide, by decide, fun u n H2 SU hn F2 _ => ?_⟩
      have U := SU.srf
      have ul := SU.len
      have n1 := SU.lo
      have n6 := SU.hi
      have hul : (toS u).length ≤ sizeLine := by rw [toS_length]; omega
      have hin : ∀ x ∈ u, x.val % 6 < n := fun x hx => (SU.mem x).mp hx
      refine ⟨_, rfl, u, rfl, U, fun l H3 hl0 hl s3 => ?_⟩
      have F3 := F2.same s3
      have ld := F2.ne hl0
      refine ⟨_, rfl, _, rfl, u, l, rfl, U, hl, fun H4 s4 => ⟨true, rfl, iteF ?_⟩⟩
      have F4 := F3.same s4
      have hl := s4 _ _ hl
      refine ⟨_, rfl, l, hol u, rfl, hl, hol_64 U, hol_ok U, fun p Vd H5 hp0 hp pm so s5 => ?_⟩
      have F5 := F4.same s5
      have pd := F4.ne hp0
      have hl := s5 _ _ hl
      refine ⟨_, rfl, _, rfl, _, rfl, hul, ?_⟩
      rw [toS_length]
      refine ⟨d, c, _, rfl, F5, by omega, by omega, fun r H6 r0 r1 F6 sb6 => ?_⟩
      have hl := sb6 _ _ ld hl
      have hp := sb6 _ _ pd hp
      refine ⟨_, rfl, _, rfl, _, rfl, hul, _, _, rfl, rfl, ⟨by decide, by decide⟩, ?_⟩
      rw [toS_length]
      refine ⟨d, c, n, (by show [V.ref d, V.int ((u.length : Int) / 2)] = _; rw [show ((u.length : Int) / 2) = (n : Int) by omega]), F6, n1, n6, fun g H7 N hg0 hN hNm F7 sb7 => ?_⟩
      have hl := sb7 _ _ ld hl
      have hp := sb7 _ _ pd hp
      have gd := F6.ne hg0
      obtain ⟨R, rfl⟩ := Int.eq_ofNat_of_zero_le r0
      have hR : R ≤ u.length := by omega
      have U1 : Srf (u.drop R ++ u.take R) := Srf.rot (A := u.take R) (B := u.drop R) (by rw [List.take_append_drop]; exact U)
      have dc := hol_dc U
      have fnl := rh_fnl U
      -- begun elsewhere
      refine ⟨_, rfl, _, rfl, _, rfl, _, rfl, hul, _, rfl, _, rfl, _, rfl, _, rfl, hul, _, _, rfl, rfl, ?_, ?_⟩
      · rw [slice_toS, slice_toS, toS_length, toS_length]
        have h1 := cut_length u (some (R : Int)) none
        have h2 := cut_length u none (some (R : Int))
        omega
      rw [slice_toS, slice_toS, cut_from _ (by omega), cut_to _ (by omega), Int.toNat_natCast, toS_append]
      refine ⟨_, rfl, U1, fun l2 H8 hl20 hl2 s8 => ?_⟩
      refine ⟨l2, _, rfl, hl2, hol_64 U1, hol_ok U1, fun p2 V2 H9 hp20 hp2 pm2 so2 s9 => ?_⟩
      have e2 : V2 = Vd := by
        have d2 := dc_rot (A := u.take R) (B := u.drop R) (by rw [List.take_append_drop]; exact U)
        rw [List.take_append_drop] at d2
        exact up_one fnl d2 dc pm2 pm so2 so
      subst e2
      have s9 := s8.trans s9
      have F9 := F7.same s9
      have hl := s9 _ _ hl
      have hp := s9 _ _ hp
      have hNm := hNm.same s9
      refine ⟨_, rfl, ne_same _ hp2 hp ⟨_, rfl, iteF ?_⟩⟩
      -- backwards
      refine ⟨_, rfl, _, rfl, toS u, rfl, rfl, hul, ?_⟩
      rw [revS_toS]
      refine ⟨_, rfl, U.rev, fun l3 HA hl30 hl3 sA => ?_⟩
      refine ⟨l3, _, rfl, hl3, hol_64 U.rev, hol_ok U.rev, fun p3 V3 HB hp30 hp3 pm3 so3 sB => ?_⟩
      have sB := sA.trans sB
      have FB := F9.same sB
      have hl := sB _ _ hl
      have hNm := hNm.same sB
      refine ⟨_, rfl, l, rfl, ⟨_, SqL.of hl⟩, ?_⟩
      refine comp_by (own := ["_law_word"]) (cap := []) (J := Itl K l) (hol u).length (fun i ys σ H' => ∃ v : Option V, σ = [v] ∧ ys = (((hol u).take i).map bk).map tx ∧ Same HB H') ⟨none, rfl, rfl, Same.refl _⟩
        (fun i ys σ H' hi ⟨v, _, e, _⟩ => ?_) (by have := hol_64 U; omega) (fun i ys σ H' hi ⟨v, _, _, s1⟩ => ?_) (fun ys σ H' ⟨v, _, _, s1⟩ => ?_) ?_ ?_
      · rw [e, List.length_map, List.length_map, List.length_take]; omega
      · exact ⟨(hol u).map tx, tx (hol u)[i], SqL.of (s1 _ _ hl), by rw [List.getElem?_map, List.getElem?_eq_getElem hi]; rfl⟩
      · exact ⟨(hol u).map tx, SqL.of (s1 _ _ hl), by rw [List.length_map]; exact Nat.le_refl _⟩
      · rintro j ys σ HC x HD M hj ⟨v, rfl, rfl, s1⟩ ⟨rfl, hx⟩ hM
        have hx := hx _ (SqL.of (s1 _ _ hl))
        rw [List.getElem?_map, List.getElem?_eq_getElem hj] at hx
        obtain rfl := Option.some.inj hx
        have hm := hol_ok U _ (List.getElem_mem hj)
        refine ⟨_, rfl, (hol u)[j], rfl, by omega, fun H3 s3 => hM _ _ _ ⟨_, rfl, ?_, s1.trans s3⟩⟩
        rw [List.take_add_one, List.getElem?_eq_getElem hj, List.map_append, List.map_append]
        rfl
      rintro ys σ HC q ⟨v, rfl, rfl, sC⟩ hq
      rw [List.take_length]
      have sD : Same HC (upd HC q (.lst (((hol u).map bk).map tx))) := Same.new hq
      have fD : (upd HC q (.lst (((hol u).map bk).map tx))) q = some (.lst (((hol u).map bk).map tx)) := upd_same
      generalize upd HC q (.lst (((hol u).map bk).map tx)) = HD at sD fD ⊢
      have sD := sC.trans sD
      refine ⟨q, (hol u).map bk, rfl, fD, by rw [List.length_map]; exact hol_64 U, bk_mem_len (hol_ok U), fun p4 V4 HE hp40 hp4 pm4 so4 sE => ?_⟩
      have e4 : V4 = V3 := up_one (rh_fnl U.rev) (dc_rev U) (hol_dc U.rev) pm4 pm3 so4 so3
      subst e4
      have sE := sD.trans sE
      have FE := FB.same sE
      have hl := sE _ _ hl
      have hNm := hNm.same sE
      refine ne_same _ (sE _ _ hp3) hp4 ⟨_, rfl, iteF ?_⟩
      -- other names
      have RN := hN.ren hin
      have U5 := RN.srf U
      refine ⟨_, rfl, _, rfl, g, u, N, n, rfl, hNm, hin, by omega, fun HF sF => ?_⟩
      have FF := FE.same sF
      have hl := sF _ _ hl
      have hNm := hNm.same sF
      refine ⟨_, rfl, l, rfl, ⟨_, SqL.of hl⟩, ?_⟩
      have sub : ∀ v ∈ hol u, ∀ x ∈ v, x.val % 6 < n := fun v hv x hx => hin x (dc.pm.mem_iff.mp (List.mem_flatten.mpr ⟨v, hv, hx⟩))
      refine comp_by (own := ["_law_word"]) (cap := [7]) (J := Itl K l) (hol u).length (fun i ys σ H' => ∃ v : Option V, σ = [v, some (.ref g)] ∧ ys = (((hol u).take i).map (List.map (nm N))).map tx ∧ Same HF H') ⟨none, rfl, rfl, Same.refl _⟩
        (fun i ys σ H' hi ⟨v, _, e, _⟩ => ?_) (by have := hol_64 U; omega) (fun i ys σ H' hi ⟨v, _, _, s1⟩ => ?_) (fun ys σ H' ⟨v, _, _, s1⟩ => ?_) ?_ ?_
      · rw [e, List.length_map, List.length_map, List.length_take]; omega
      · exact ⟨(hol u).map tx, tx (hol u)[i], SqL.of (s1 _ _ hl), by rw [List.getElem?_map, List.getElem?_eq_getElem hi]; rfl⟩
      · exact ⟨(hol u).map tx, SqL.of (s1 _ _ hl), by rw [List.length_map]; exact Nat.le_refl _⟩
      · rintro j ys σ HC x HD M hj ⟨v, rfl, rfl, s1⟩ ⟨rfl, hx⟩ hM
        have hx := hx _ (SqL.of (s1 _ _ hl))
        rw [List.getElem?_map, List.getElem?_eq_getElem hj] at hx
        obtain rfl := Option.some.inj hx
        have hm := hol_ok U _ (List.getElem_mem hj)
        refine ⟨_, rfl, _, rfl, g, (hol u)[j], N, n, rfl, hNm.same s1, sub _ (List.getElem_mem hj), hm.2, fun H3 s3 => hM _ _ _ ⟨_, rfl, ?_, s1.trans s3⟩⟩
        rw [List.take_add_one, List.getElem?_eq_getElem hj, List.map_append, List.map_append]
        rfl
      rintro ys σ HG q2 ⟨v, rfl, rfl, sG⟩ hq2
      rw [List.take_length]
      have sH : Same HG (upd HG q2 (.lst (((hol u).map (List.map (nm N))).map tx))) := Same.new hq2
      have fH : (upd HG q2 (.lst (((hol u).map (List.map (nm N))).map tx))) q2 = some (.lst (((hol u).map (List.map (nm N))).map tx)) := upd_same
      generalize upd HG q2 (.lst (((hol u).map (List.map (nm N))).map tx)) = HH at sH fH ⊢
      have sH := sG.trans sH
      have FH := FF.same sH
      refine ⟨_, rfl, _, rfl, U5, fun l5 HI hl50 hl5 sI => ?_⟩
      refine ⟨l5, _, rfl, hl5, hol_64 U5, hol_ok U5, fun p5 V5 HJ hp50 hp5 pm5 so5 sJ => ?_⟩
      have sJ := sI.trans sJ
      refine ⟨_, rfl, q2, (hol u).map (List.map (nm N)), rfl, sJ _ _ fH, by rw [List.length_map]; exact hol_64 U, map_mem_len (hol_ok U), fun p6 V6 HK hp60 hp6 pm6 so6 sK => ?_⟩
      have e6 : V6 = V5 := up_one (rh_fnl U5) (dc_ren RN U) (hol_dc U5) pm6 pm5 so6 so5
      subst e6
      have FK := (FH.same sJ).same sK
      refine ne_same _ (sK _ _ hp5) hp6 ⟨_, rfl, iteF ?_⟩
      -- handles
      have c5 : (hol (u.map (nm N))).length = (hol u).length := by
        have := dc_len (rh_fnl U5) (hol_dc U5) (dc_ren RN U)
        rwa [List.length_map] at this
      have c6 : (hol u.reverse).length = (hol u).length := by
        have := dc_len (rh_fnl U.rev) (hol_dc U.rev) (dc_rev U)
        rwa [List.length_map] at this
      refine ⟨_, rfl, _, rfl, U5, fun HL sL => ⟨_, rfl, u, rfl, U, fun HM sM => ?_⟩⟩
      rw [c5, List.length_map]
      refine ⟨rfl, _, rfl, iteNS rfl ?_⟩
      refine ⟨_, rfl, _, rfl, toS u, rfl, rfl, hul, ?_⟩
      rw [revS_toS]
      refine ⟨_, rfl, U.rev, fun HN sN => ⟨_, rfl, u, rfl, U, fun HO sO => ?_⟩⟩
      rw [c6, List.length_reverse]
      refine ⟨rfl, _, rfl, iteNS rfl ?_⟩
      exact ⟨_, _, _, _, _, _, _, _, rfl, (((FK.same sL).same sM).same sN).same sO⟩
    · rintro σ H1 ⟨b1, b2, b3, b4, b5, b6, b7, b8, rfl, F1⟩
      exact k H1
end
end Kx
set_option Elab.async false
set_option linter.all false
set_option maxRecDepth 100000
set_option maxHeartbeats 0
namespace Kx
open PySem PySem.Spec PyProof.Rows L2 Wd
theorem df_mk {K : PySem.W.Frag} {h : Heap} {mg : Str → Option Value} {x : Str} {st : Stmt} {f : Addr} {oc : Value} {od an : Option Addr} {osl : Array (Option Value)} {kV doc pm cdv ct : Value} (X : K.In h) (G : h.Ns mainGlobals mg) (a : PySem.W.nsIn K mainGlobals x = some (some (.ref f)))
    (l : K.lookup f = some ⟨oc, od, .func (PySem.W.fnOf x x (defArgs st) (defBody st) (defScope st) .none kV doc pm an cdv ct), osl⟩) (c : PySem.W.codeIn K cdv x = true) (k : PySem.W.keepIn K (.ref f) = true) : Df K mg x st := ⟨f, _, PySem.W.mg_of X G a, fun_mk l c k⟩
theorem all_mk {l : PySem.W.OpenLaw} {w : World} {K : PySem.W.Frag} {h : Heap} {mg : Str → Option Value} {fa : Addr} (X : K.In h) (G : h.Ns mainGlobals mg) (hfa : mg "law" = some (.ref fa))
    {f0 : Addr} {od0 an0 : Option Addr} {sl0 : Array (Option Value)} {oc0 kV0 dc0 pm0 cd0 ct0 : Value} {f1 : Addr} {od1 an1 : Option Addr} {sl1 : Array (Option Value)} {oc1 kV1 dc1 pm1 cd1 ct1 : Value} {f2 : Addr} {od2 an2 : Option Addr} {sl2 : Array (Option Value)} {oc2 kV2 dc2 pm2 cd2 ct2 : Value} {f3 : Addr} {od3 an3 : Option Addr} {sl3 : Array (Option Value)} {oc3 kV3 dc3 pm3 cd3 ct3 : Value} {f4 : Addr} {od4 an4 : Option Addr} {sl4 : Array (Option Value)} {oc4 kV4 dc4 pm4 cd4 ct4 : Value} {f5 : Addr} {od5 an5 : Option Addr} {sl5 : Array (Option Value)} {oc5 kV5 dc5 pm5 cd5 ct5 : Value} {f6 : Addr} {od6 an6 : Option Addr} {sl6 : Array (Option Value)} {oc6 kV6 dc6 pm6 cd6 ct6 : Value} {f7 : Addr} {od7 an7 : Option Addr} {sl7 : Array (Option Value)} {oc7 kV7 dc7 pm7 cd7 ct7 : Value} {f8 : Addr} {od8 an8 : Option Addr} {sl8 : Array (Option Value)} {oc8 kV8 dc8 pm8 cd8 ct8 : Value} {f9 : Addr} {od9 an9 : Option Addr} {sl9 : Array (Option Value)} {oc9 kV9 dc9 pm9 cd9 ct9 : Value} {f10 : Addr} {od10 an10 : Option Addr} {sl10 : Array (Option Value)} {oc10 kV10 dc10 pm10 cd10 ct10 : Value} {f11 : Addr} {od11 an11 : Option Addr} {sl11 : Array (Option Value)} {oc11 kV11 dc11 pm11 cd11 ct11 : Value} {f12 : Addr} {od12 an12 : Option Addr} {sl12 : Array (Option Value)} {oc12 kV12 dc12 pm12 cd12 ct12 : Value} {f13 : Addr} {od13 an13 : Option Addr} {sl13 : Array (Option Value)} {oc13 kV13 dc13 pm13 cd13 ct13 : Value} {aB : Addr} {es : Array DictEntry} {en : Nat}  {t0 t1 t2 t3 t4 t5 t6 t7 t8 t9 t10 t11 : Tok}
    (a0 : PySem.W.nsIn K mainGlobals "back" = some (some (.ref f0)))
    (l0 : K.lookup f0 = some ⟨oc0, od0, .func (PySem.W.fnOf "back" "back" (defArgs s_back) (defBody s_back) (defScope s_back) .none kV0 dc0 pm0 an0 cd0 ct0), sl0⟩)
    (c0 : PySem.W.codeIn K cd0 "back" = true)
    (k0 : PySem.W.keepIn K (.ref f0) = true)
    (a1 : PySem.W.nsIn K mainGlobals "holes" = some (some (.ref f1)))
    (l1 : K.lookup f1 = some ⟨oc1, od1, .func (PySem.W.fnOf "holes" "holes" (defArgs s_holes) (defBody s_holes) (defScope s_holes) .none kV1 dc1 pm1 an1 cd1 ct1), sl1⟩)
    (c1 : PySem.W.codeIn K cd1 "holes" = true)
    (k1 : PySem.W.keepIn K (.ref f1) = true)
    (a2 : PySem.W.nsIn K mainGlobals "hole_from" = some (some (.ref f2)))
    (l2 : K.lookup f2 = some ⟨oc2, od2, .func (PySem.W.fnOf "hole_from" "hole_from" (defArgs s_hole) (defBody s_hole) (defScope s_hole) .none kV2 dc2 pm2 an2 cd2 ct2), sl2⟩)
    (c2 : PySem.W.codeIn K cd2 "hole_from" = true)
    (k2 : PySem.W.keepIn K (.ref f2) = true)
    (a3 : PySem.W.nsIn K mainGlobals "handles" = some (some (.ref f3)))
    (l3 : K.lookup f3 = some ⟨oc3, od3, .func (PySem.W.fnOf "handles" "handles" (defArgs s_handles) (defBody s_handles) (defScope s_handles) .none kV3 dc3 pm3 an3 cd3 ct3), sl3⟩)
    (c3 : PySem.W.codeIn K cd3 "handles" = true)
    (k3 : PySem.W.keepIn K (.ref f3) = true)
    (a4 : PySem.W.nsIn K mainGlobals "_law_tape" = some (some (.ref f4)))
    (l4 : K.lookup f4 = some ⟨oc4, od4, .func (PySem.W.fnOf "_law_tape" "_law_tape" (defArgs s_tape) (defBody s_tape) (defScope s_tape) .none kV4 dc4 pm4 an4 cd4 ct4), sl4⟩)
    (c4 : PySem.W.codeIn K cd4 "_law_tape" = true)
    (k4 : PySem.W.keepIn K (.ref f4) = true)
    (a5 : PySem.W.nsIn K mainGlobals "_law_draw" = some (some (.ref f5)))
    (l5 : K.lookup f5 = some ⟨oc5, od5, .func (PySem.W.fnOf "_law_draw" "_law_draw" (defArgs s_draw) (defBody s_draw) (defScope s_draw) .none kV5 dc5 pm5 an5 cd5 ct5), sl5⟩)
    (c5 : PySem.W.codeIn K cd5 "_law_draw" = true)
    (k5 : PySem.W.keepIn K (.ref f5) = true)
    (a6 : PySem.W.nsIn K mainGlobals "_law_back" = some (some (.ref f6)))
    (l6 : K.lookup f6 = some ⟨oc6, od6, .func (PySem.W.fnOf "_law_back" "_law_back" (defArgs s_lback) (defBody s_lback) (defScope s_lback) .none kV6 dc6 pm6 an6 cd6 ct6), sl6⟩)
    (c6 : PySem.W.codeIn K cd6 "_law_back" = true)
    (k6 : PySem.W.keepIn K (.ref f6) = true)
    (a7 : PySem.W.nsIn K mainGlobals "_law_any_row" = some (some (.ref f7)))
    (l7 : K.lookup f7 = some ⟨oc7, od7, .func (PySem.W.fnOf "_law_any_row" "_law_any_row" (defArgs s_row) (defBody s_row) (defScope s_row) .none kV7 dc7 pm7 an7 cd7 ct7), sl7⟩)
    (c7 : PySem.W.codeIn K cd7 "_law_any_row" = true)
    (k7 : PySem.W.keepIn K (.ref f7) = true)
    (a8 : PySem.W.nsIn K mainGlobals "_law_least" = some (some (.ref f8)))
    (l8 : K.lookup f8 = some ⟨oc8, od8, .func (PySem.W.fnOf "_law_least" "_law_least" (defArgs s_lleast) (defBody s_lleast) (defScope s_lleast) .none kV8 dc8 pm8 an8 cd8 ct8), sl8⟩)
    (c8 : PySem.W.codeIn K cd8 "_law_least" = true)
    (k8 : PySem.W.keepIn K (.ref f8) = true)
    (a9 : PySem.W.nsIn K mainGlobals "_law_round_up" = some (some (.ref f9)))
    (l9 : K.lookup f9 = some ⟨oc9, od9, .func (PySem.W.fnOf "_law_round_up" "_law_round_up" (defArgs s_up) (defBody s_up) (defScope s_up) .none kV9 dc9 pm9 an9 cd9 ct9), sl9⟩)
    (c9 : PySem.W.codeIn K cd9 "_law_round_up" = true)
    (k9 : PySem.W.keepIn K (.ref f9) = true)
    (a10 : PySem.W.nsIn K mainGlobals "_law_other_names" = some (some (.ref f10)))
    (l10 : K.lookup f10 = some ⟨oc10, od10, .func (PySem.W.fnOf "_law_other_names" "_law_other_names" (defArgs s_names) (defBody s_names) (defScope s_names) .none kV10 dc10 pm10 an10 cd10 ct10), sl10⟩)
    (c10 : PySem.W.codeIn K cd10 "_law_other_names" = true)
    (k10 : PySem.W.keepIn K (.ref f10) = true)
    (a11 : PySem.W.nsIn K mainGlobals "_law_named" = some (some (.ref f11)))
    (l11 : K.lookup f11 = some ⟨oc11, od11, .func (PySem.W.fnOf "_law_named" "_law_named" (defArgs s_named) (defBody s_named) (defScope s_named) .none kV11 dc11 pm11 an11 cd11 ct11), sl11⟩)
    (c11 : PySem.W.codeIn K cd11 "_law_named" = true)
    (k11 : PySem.W.keepIn K (.ref f11) = true)
    (a12 : PySem.W.nsIn K mainGlobals "_law_words_right" = some (some (.ref f12)))
    (l12 : K.lookup f12 = some ⟨oc12, od12, .func (PySem.W.fnOf "_law_words_right" "_law_words_right" (defArgs s_right) (defBody s_right) (defScope s_right) .none kV12 dc12 pm12 an12 cd12 ct12), sl12⟩)
    (c12 : PySem.W.codeIn K cd12 "_law_words_right" = true)
    (k12 : PySem.W.keepIn K (.ref f12) = true)
    (a13 : PySem.W.nsIn K mainGlobals "law" = some (some (.ref f13)))
    (l13 : K.lookup f13 = some ⟨oc13, od13, .func (PySem.W.fnOf "law" "law" (defArgs s_law) (defBody s_law) (defScope s_law) .none kV13 dc13 pm13 an13 cd13 ct13), sl13⟩)
    (c13 : PySem.W.codeIn K cd13 "law" = true)
    (k13 : PySem.W.keepIn K (.ref f13) = true)
    (z_len : PySem.W.nsIn K mainGlobals "len" = some none)
    (z_repr : PySem.W.nsIn K mainGlobals "repr" = some none)
    (z_abs : PySem.W.nsIn K mainGlobals "abs" = some none)
    (z_max : PySem.W.nsIn K mainGlobals "max" = some none)
    (z_int : PySem.W.nsIn K mainGlobals "int" = some none)
    (z_list : PySem.W.nsIn K mainGlobals "list" = some none)
    (z_range : PySem.W.nsIn K mainGlobals "range" = some none)
    (z_reversed : PySem.W.nsIn K mainGlobals "reversed" = some none)
    (z_min : PySem.W.nsIn K mainGlobals "min" = some none)
    (z_sorted : PySem.W.nsIn K mainGlobals "sorted" = some none)
    (z_tuple : PySem.W.nsIn K mainGlobals "tuple" = some none)
    (z_isinstance : PySem.W.nsIn K mainGlobals "isinstance" = some none)
    (z_all : PySem.W.nsIn K mainGlobals "all" = some none)
    (z_str : PySem.W.nsIn K mainGlobals "str" = some none)
    (z_zip : PySem.W.nsIn K mainGlobals "zip" = some none)
    (aBk : PySem.W.nsIn K mainGlobals "BACKS" = some (some (.ref aB)))
    (lB : K.lookup aB = some ⟨.type "dict", none, .dict es en, #[]⟩)
    (kB : PySem.W.KeysLit w.params es.toList)
    (z_bool : PySem.W.nsIn K mainGlobals "bool" = some none)
    (gl0 : PySem.W.nsIn K aB "a" = some (some (.str "A" t0)))
    (gl1 : PySem.W.nsIn K aB "b" = some (some (.str "B" t1)))
    (gl2 : PySem.W.nsIn K aB "c" = some (some (.str "C" t2)))
    (gl3 : PySem.W.nsIn K aB "d" = some (some (.str "D" t3)))
    (gl4 : PySem.W.nsIn K aB "e" = some (some (.str "E" t4)))
    (gl5 : PySem.W.nsIn K aB "f" = some (some (.str "F" t5)))
    (gl6 : PySem.W.nsIn K aB "A" = some (some (.str "a" t6)))
    (gl7 : PySem.W.nsIn K aB "B" = some (some (.str "b" t7)))
    (gl8 : PySem.W.nsIn K aB "C" = some (some (.str "c" t8)))
    (gl9 : PySem.W.nsIn K aB "D" = some (some (.str "d" t9)))
    (gl10 : PySem.W.nsIn K aB "E" = some (some (.str "e" t10)))
    (gl11 : PySem.W.nsIn K aB "F" = some (some (.str "f" t11))) :
    ∃ fd : FuncData, (∀ (s : Shared) (v : Value), BindsTo s fd ⟨[v], []⟩ [("_law_script", v)]) ∧ ∀ base : Heap, K.In base → base.Ns mainGlobals mg → FnOk l.prog w K mg base CX0 6 fa fd ["_law_script"] (spLaw K) := by
  have e := hfa.symm.trans (PySem.W.mg_of X G a13)
  cases e
  have gB : ∀ x : L, ∃ t, PySem.W.nsIn K aB (toS [x]) = some (some (.str (toS [inv x]) t)) := by
    have q : ∀ (x : L) (u v : Str) (t : Tok), PySem.W.nsIn K aB u = some (some (.str v t)) → toS [x] = u → toS [inv x] = v → ∃ t, PySem.W.nsIn K aB (toS [x]) = some (some (.str (toS [inv x]) t)) := fun x u v t g e1 e2 => ⟨t, by rw [e1, e2]; exact g⟩
    intro x
    match x with
    | ⟨0, _⟩ => exact q 0 "a" "A" _ gl0 (by decide +kernel) (by decide +kernel)
    | ⟨1, _⟩ => exact q 1 "b" "B" _ gl1 (by decide +kernel) (by decide +kernel)
    | ⟨2, _⟩ => exact q 2 "c" "C" _ gl2 (by decide +kernel) (by decide +kernel)
    | ⟨3, _⟩ => exact q 3 "d" "D" _ gl3 (by decide +kernel) (by decide +kernel)
    | ⟨4, _⟩ => exact q 4 "e" "E" _ gl4 (by decide +kernel) (by decide +kernel)
    | ⟨5, _⟩ => exact q 5 "f" "F" _ gl5 (by decide +kernel) (by decide +kernel)
    | ⟨6, _⟩ => exact q 6 "A" "a" _ gl6 (by decide +kernel) (by decide +kernel)
    | ⟨7, _⟩ => exact q 7 "B" "b" _ gl7 (by decide +kernel) (by decide +kernel)
    | ⟨8, _⟩ => exact q 8 "C" "c" _ gl8 (by decide +kernel) (by decide +kernel)
    | ⟨9, _⟩ => exact q 9 "D" "d" _ gl9 (by decide +kernel) (by decide +kernel)
    | ⟨10, _⟩ => exact q 10 "E" "e" _ gl10 (by decide +kernel) (by decide +kernel)
    | ⟨11, _⟩ => exact q 11 "F" "f" _ gl11 (by decide +kernel) (by decide +kernel)
  have T : Bt K w mg aB := ⟨PySem.W.mg_none_of X G z_len, PySem.W.mg_none_of X G z_repr, PySem.W.mg_none_of X G z_abs, PySem.W.mg_none_of X G z_max, PySem.W.mg_none_of X G z_int, PySem.W.mg_none_of X G z_list, PySem.W.mg_none_of X G z_range, PySem.W.mg_none_of X G z_reversed, PySem.W.mg_none_of X G z_min, PySem.W.mg_none_of X G z_sorted, PySem.W.mg_none_of X G z_tuple, PySem.W.mg_none_of X G z_isinstance, PySem.W.mg_none_of X G z_all, PySem.W.mg_none_of X G z_str, PySem.W.mg_none_of X G z_zip, PySem.W.mg_of X G aBk, ⟨es, en, lB, kB⟩, gB⟩
  refine ⟨PySem.W.fnOf "law" "law" (defArgs s_law) (defBody s_law) (defScope s_law) .none kV13 dc13 pm13 an13 cd13 ct13, fun s v => .of_eq rfl, fun base _ _ => ?_⟩
  have F_back := c_back (P := l.prog) (w := w) (base := base) (df_mk X G a0 l0 c0 k0) T
  have F_hole := c_hole (P := l.prog) (w := w) (base := base) (df_mk X G a2 l2 c2 k2) T F_back
  have F_holes := c_holes (P := l.prog) (w := w) (base := base) (df_mk X G a1 l1 c1 k1) T F_hole
  have F_handles := c_handles (P := l.prog) (w := w) (base := base) (df_mk X G a3 l3 c3 k3) T F_holes
  have F_tape := c_tape (P := l.prog) (w := w) (base := base) (df_mk X G a4 l4 c4 k4) T
  have F_draw := c_draw (P := l.prog) (w := w) (base := base) (df_mk X G a5 l5 c5 k5) T
  have F_lback := c_lback (P := l.prog) (w := w) (base := base) (df_mk X G a6 l6 c6 k6) 
  have F_row := c_row (P := l.prog) (w := w) (base := base) (df_mk X G a7 l7 c7 k7) T F_draw
  have F_lleast := c_lleast (P := l.prog) (w := w) (base := base) (df_mk X G a8 l8 c8 k8) T
  have F_up := c_up (P := l.prog) (w := w) (base := base) (df_mk X G a9 l9 c9 k9) T F_lleast
  have F_names := c_names (P := l.prog) (w := w) (base := base) (df_mk X G a10 l10 c10 k10) T F_draw F_lback
  have F_named := c_named (P := l.prog) (w := w) (base := base) (df_mk X G a11 l11 c11 k11) T
  have F_right := c_right (P := l.prog) (w := w) (base := base) (df_mk X G a12 l12 c12 k12) T (PySem.W.mg_none_of X G z_bool) F_lback F_handles
  exact c_law (fun_mk l13 c13 k13) T F_tape F_draw F_row F_lback F_holes F_handles F_up F_names F_named F_right
theorem walk {l : PySem.W.OpenLaw} {q : Program} {loose : List Str} {XP : (Str → Option Value) → Heap → Prop} {YP : World → Heap → Prop} {d : DefRec} {K : Params → PySem.W.Frag} (hn : l.most = some 63) (hdf : d.params.defaults = [])
    (hY : ∀ (w : World) (h : Heap), YP w h → (K w.params).In h)
    (F : ∀ (w : World) (mg : Str → Option Value) (fa : Addr) (h : Heap), (K w.params).In h → h.Ns mainGlobals mg → mg d.name = some (.ref fa) →
      ∃ fd : FuncData, (∀ (s : Shared) (u : Value), BindsTo s fd ⟨[u], []⟩ [("_law_script", u)]) ∧ ∀ base : Heap, (K w.params).In base → base.Ns mainGlobals mg → FnOk l.prog w (K w.params) mg base CX0 6 fa fd ["_law_script"] (spLaw (K w.params))) :
    PySem.W.WalkO q loose XP YP l.row.toRowW d [] (fun f vs => PySem.call f vs) :=
  L2.walk_of (n := 63) (k := 6) (x := "_law_script") (CX := fun _ => CX0) (sp := fun w => spLaw (K w.params)) hn (by decide) hdf ⟨rfl, by decide, by decide, rfl⟩ hY F (fun _ _ a ns hl _ hS => ⟨a, ns, rfl, hS, hl, fun _ => rfl⟩) fun _ _ _ _ _ z => z
end Kx
open PySem PySem.W PyProof.Rows
set_option maxRecDepth 100000 in
set_option maxHeartbeats 0 in
theorem PySem.Challenge.cw_ringwords_k32_whole_handles_by_holes_holds : PySem.Challenge.rw_ringwords_k32_whole_handles_by_holes.Holds := by
  w_on; o_law; k_head; (case hw => w_witness2)
  k_fill
  refine Kx.walk (l := PySem.Challenge.rw_ringwords_k32_whole_handles_by_holes) rfl rfl (fun w h Y => PySem.W.kIn_of Y) ?F
  case F =>
    intro w mg fa h KX G hmg
    refine' Kx.all_mk KX G hmg ?a0 ?l0 ?c0 ?k0 ?a1 ?l1 ?c1 ?k1 ?a2 ?l2 ?c2 ?k2 ?a3 ?l3 ?c3 ?k3 ?a4 ?l4 ?c4 ?k4 ?a5 ?l5 ?c5 ?k5 ?a6 ?l6 ?c6 ?k6 ?a7 ?l7 ?c7 ?k7 ?a8 ?l8 ?c8 ?k8 ?a9 ?l9 ?c9 ?k9 ?a10 ?l10 ?c10 ?k10 ?a11 ?l11 ?c11 ?k11 ?a12 ?l12 ?c12 ?k12 ?a13 ?l13 ?c13 ?k13 ?z_len ?z_repr ?z_abs ?z_max ?z_int ?z_list ?z_range ?z_reversed ?z_min ?z_sorted ?z_tuple ?z_isinstance ?z_all ?z_str ?z_zip ?aBk ?lB ?kB ?z_bool ?gl0 ?gl1 ?gl2 ?gl3 ?gl4 ?gl5 ?gl6 ?gl7 ?gl8 ?gl9 ?gl10 ?gl11
    (case a0 => k_is)
    (case l0 => k_is)
    (case c0 => k_is)
    (case k0 => k_is)
    (case a1 => k_is)
    (case l1 => k_is)
    (case c1 => k_is)
    (case k1 => k_is)
    (case a2 => k_is)
    (case l2 => k_is)
    (case c2 => k_is)
    (case k2 => k_is)
    (case a3 => k_is)
    (case l3 => k_is)
    (case c3 => k_is)
    (case k3 => k_is)
    (case a4 => k_is)
    (case l4 => k_is)
    (case c4 => k_is)
    (case k4 => k_is)
    (case a5 => k_is)
    (case l5 => k_is)
    (case c5 => k_is)
    (case k5 => k_is)
    (case a6 => k_is)
    (case l6 => k_is)
    (case c6 => k_is)
    (case k6 => k_is)
    (case a7 => k_is)
    (case l7 => k_is)
    (case c7 => k_is)
    (case k7 => k_is)
    (case a8 => k_is)
    (case l8 => k_is)
    (case c8 => k_is)
    (case k8 => k_is)
    (case a9 => k_is)
    (case l9 => k_is)
    (case c9 => k_is)
    (case k9 => k_is)
    (case a10 => k_is)
    (case l10 => k_is)
    (case c10 => k_is)
    (case k10 => k_is)
    (case a11 => k_is)
    (case l11 => k_is)
    (case c11 => k_is)
    (case k11 => k_is)
    (case a12 => k_is)
    (case l12 => k_is)
    (case c12 => k_is)
    (case k12 => k_is)
    (case a13 => k_is)
    (case l13 => k_is)
    (case c13 => k_is)
    (case k13 => k_is)
    (case z_len => k_is)
    (case z_repr => k_is)
    (case z_abs => k_is)
    (case z_max => k_is)
    (case z_int => k_is)
    (case z_list => k_is)
    (case z_range => k_is)
    (case z_reversed => k_is)
    (case z_min => k_is)
    (case z_sorted => k_is)
    (case z_tuple => k_is)
    (case z_isinstance => k_is)
    (case z_all => k_is)
    (case z_str => k_is)
    (case z_zip => k_is)
    (case aBk => k_is)
    (case lB => k_is)
    (case kB => exact ⟨⟨_, _, rfl, rfl⟩, ⟨_, _, rfl, rfl⟩, ⟨_, _, rfl, rfl⟩, ⟨_, _, rfl, rfl⟩, ⟨_, _, rfl, rfl⟩, ⟨_, _, rfl, rfl⟩, ⟨_, _, rfl, rfl⟩, ⟨_, _, rfl, rfl⟩, ⟨_, _, rfl, rfl⟩, ⟨_, _, rfl, rfl⟩, ⟨_, _, rfl, rfl⟩, ⟨_, _, rfl, rfl⟩, trivial⟩)
    (case z_bool => k_is)
    (case gl0 => k_is)
    (case gl1 => k_is)
    (case gl2 => k_is)
    (case gl3 => k_is)
    (case gl4 => k_is)
    (case gl5 => k_is)
    (case gl6 => k_is)
    (case gl7 => k_is)
    (case gl8 => k_is)
    (case gl9 => k_is)
    (case gl10 => k_is)
    (case gl11 => k_is)
