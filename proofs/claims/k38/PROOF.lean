import PyProof.Rows.All
import Wide.All
import OpenK.AllK
import Wide.FinOn
import Lean
import PyProof.EqAt
import PyProof.EqKinds
import PyProof.TupleCall
import PyProof.ListRange
import PyProof.Rows.StrKeys3
import PyProof.FactsAll.set
import PySem.Challenge.RW_labelways_k38_plans_by_kind
set_option Elab.async false
set_option linter.all false
set_option maxRecDepth 100000
/-! THE HAND LAYER, for ints, bools, texts, own classes, LISTS and tuples (index, slices, in, append, pop ..), calls, loops. Paste it whole ahead of your own text; what your proof does not reach may be deleted. -/
namespace L2
open PySem PySem.Spec PyProof.Rows

/-- a key: an int or a str -/
abbrev Key := Sum Int Str
def keyIs : Key → Value → Bool
  | .inl k, v => Value.isInt k v
  | .inr x, v => Value.isStrOf x v
def keyH (w : World) : Key → Int
  | .inl k => hashInt k
  | .inr x => hashStr w x
theorem keyIs_shape : ∀ {k : Key} {v : Value}, keyIs k v = true → (∃ i t, k = Sum.inl i ∧ v = Value.int i t) ∨ (∃ x t, k = Sum.inr x ∧ v = Value.str x t)
  | .inl i, v, h => by
    obtain ⟨t, e⟩ := Value.isInt_shape (k := i) (v := v) h
    exact .inl ⟨i, t, rfl, e⟩
  | .inr x, v, h => by
    obtain ⟨t, e⟩ := Value.isStrOf_shape (x := x) (v := v) h
    exact .inr ⟨x, t, rfl, e⟩
theorem key_ll (a b : Int) : decide ((Sum.inl a : Key) = Sum.inl b) = (a == b) := by
  by_cases e : a = b
  · subst e; simp
  · have h : ¬ (Sum.inl a : Key) = Sum.inl b := fun q => e (Sum.inl.inj q)
    rw [decide_eq_false h]
    exact (beq_eq_false_iff_ne.mpr e).symm
theorem key_rr (a b : Str) : decide ((Sum.inr a : Key) = Sum.inr b) = decide (a = b) := by
  by_cases e : a = b
  · subst e; simp
  · have h : ¬ (Sum.inr a : Key) = Sum.inr b := fun q => e (Sum.inr.inj q)
    rw [decide_eq_false h, decide_eq_false e]
theorem key_lr (a : Int) (b : Str) : decide ((Sum.inl a : Key) = Sum.inr b) = false := decide_eq_false (fun q => nomatch q)
theorem key_rl (a : Str) (b : Int) : decide ((Sum.inr a : Key) = Sum.inl b) = false := decide_eq_false (fun q => nomatch q)

def mixKind (prog : Program) (w : World) : PySem.KeyKind prog w Key where
  is := keyIs
  hash := keyH w
  inj := fun v a b ha hb => by
    rcases keyIs_shape ha with ⟨i, t, rfl, rfl⟩ | ⟨x, t, rfl, rfl⟩
    · rcases keyIs_shape hb with ⟨j, u, rfl, e⟩ | ⟨y, u, rfl, e⟩
      · injection e with e1 _; rw [e1]
      · exact nomatch e
    · rcases keyIs_shape hb with ⟨j, u, rfl, e⟩ | ⟨y, u, rfl, e⟩
      · exact nomatch e
      · injection e with e1 _; rw [e1]
  byValue := fun k v h => by
    rcases keyIs_shape h with ⟨i, t, rfl, rfl⟩ | ⟨x, t, rfl, rfl⟩ <;> rfl
  pyHash := fun hv h => by
    rcases keyIs_shape hv with ⟨i, t, rfl, rfl⟩ | ⟨x, t, rfl, rfl⟩
    · exact wpAny_pyHash_int h
    · exact wpAny_pyHash_str h
  eqBool := fun hu hv h => by
    rcases keyIs_shape hu with ⟨i, t, rfl, rfl⟩ | ⟨x, t, rfl, rfl⟩
    · rcases keyIs_shape hv with ⟨j, u, rfl, rfl⟩ | ⟨y, u, rfl, rfl⟩
      · rw [key_ll] at h; exact wpAny_eqBool_int h
      · rw [key_lr] at h; exact SeqAt.EqAt.int_str i t y u _ _ _ _ h
    · rcases keyIs_shape hv with ⟨j, u, rfl, rfl⟩ | ⟨y, u, rfl, rfl⟩
      · rw [key_rl] at h; exact SeqAt.EqAt.str_int x t j u _ _ _ _ h
      · rw [key_rr] at h; exact wpAny_eqBool_str h
  «strs» := fun k x t v h => by
    rcases keyIs_shape h with ⟨i, u, rfl, e⟩ | ⟨y, u, rfl, e⟩
    · exact nomatch e
    · injection e with e1 _
      subst e1
      cases v <;> rfl

end L2

namespace L2
open PySem PySem.Spec PyProof.Rows

/-- a value, without the heap -/
inductive V where
  | non | bl (b : Bool) | int (i : Int) | str (x : Str) | byt (b : Array UInt8) | flt (b : UInt64) | ref (a : Addr) | ty (n : String)
  deriving DecidableEq

def RelV : V → Value → Prop
  | .non, u => u = Value.none
  | .bl b, u => u = Value.bool b
  | .int i, u => ∃ t, u = Value.int i t
  | .str x, u => ∃ t, u = Value.str x t
  | .byt b, u => ∃ t, u = Value.bytes b t
  | .flt b, u => ∃ t, u = Value.float b t
  | .ref a, u => u = Value.ref a
  | .ty n, u => u = Value.type n

abbrev Vals : List V → List Value → Prop := Paired RelV
theorem Vals.length {xs : List V} {us : List Value} (r : Vals xs us) : xs.length = us.length := Paired.length r
theorem Vals.get : ∀ {xs : List V} {us : List Value} {i : Nat} {x : V}, Vals xs us → xs[i]? = some x → ∃ u, us[i]? = some u ∧ RelV x u
  | _, _, _, _, .nil, e => by simp at e
  | _, _, 0, _, .cons r _, e => by simp at e; subst e; exact ⟨_, rfl, r⟩
  | _, _, i + 1, x, .cons _ t, e => by
    obtain ⟨u, h1, h2⟩ := Vals.get (i := i) (x := x) t (by simpa using e)
    exact ⟨u, by simpa using h1, h2⟩
theorem Vals.set {x : V} {u : Value} (r : RelV x u) : ∀ {xs : List V} {us : List Value} (i : Nat), Vals xs us → Vals (xs.set i x) (us.set i u)
  | _, _, _, .nil => .nil
  | _, _, 0, .cons _ t => .cons r t
  | _, _, i + 1, .cons q t => .cons q (Vals.set r i t)
theorem Vals.append : ∀ {xs ys : List V} {us ws : List Value}, Vals xs us → Vals ys ws → Vals (xs ++ ys) (us ++ ws)
  | _, _, _, _, .nil, s => s
  | _, _, _, _, .cons r t, s => .cons r (Vals.append t s)
theorem Vals.take : ∀ {xs : List V} {us : List Value} (n : Nat), Vals xs us → Vals (xs.take n) (us.take n)
  | _, _, 0, _ => .nil
  | _, _, _ + 1, .nil => .nil
  | _, _, n + 1, .cons r t => .cons r (Vals.take n t)
theorem Vals.drop : ∀ {xs : List V} {us : List Value} (n : Nat), Vals xs us → Vals (xs.drop n) (us.drop n)
  | _, _, 0, r => r
  | _, _, _ + 1, .nil => .nil
  | _, _, n + 1, .cons _ t => Vals.drop n t
def RelO : Option V → Option Value → Prop
  | some v, some u => RelV v u
  | none, none => True
  | _, _ => False
def KV {κ : Type} : List (κ × V) → List (κ × Value) → Prop := Paired fun (p : κ × V) (q : κ × Value) => p.1 = q.1 ∧ RelV p.2 q.2

/-- a key of a dict (00_mix): an int or a text -/
def kV : Key → V
  | .inl i => .int i
  | .inr x => .str x

/-- what stands at a tracked address -/
inductive HO where
  /-- a list -/
  | lst (xs : List V)
  /-- a tuple (never changes) -/
  | tup (xs : List V)
  /-- a dict whose keys are ints and texts; one whose keys are tuples of ints and texts (the empty one is both) -/
  | dK (kvs : List (Key × V)) | dT (kvs : List (List Key × V))
  /-- a set of ints: its members, its size -/
  | set (S : Int → Bool) (n : Nat)
  /-- an instance of the class at C, its dict at dx, its attributes -/
  | ins (C dx : Addr) (fs : List (Str × V))
  /-- the dict of the instance at x -/
  | own (x : Addr)
  /-- the dict of an exception -/
  | xd (fs : List (Str × V))
  /-- a bound method, f of x -/
  | met (f x : Addr)
  /-- a range object lo, lo + 1, .. below hi -/
  | rng (lo hi : Int)
  /-- a thing that is known to the object (the script; a dict while a loop walks it): read, never written while it is so -/
  | frz (o : Obj) (u : HO)
  /-- a code object's table -/
  | tbl (ps : Array Value)
  /-- any other thing, by what is true of its one object (a def of one's own: SetO a S n := HO.ext fun h => ..) -/
  | ext (φ : Heap → Prop)

abbrev Hp := Addr → Option HO
def upd (H : Hp) (a : Addr) (o : HO) : Hp := fun b => if b = a then some o else H b
theorem upd_same {H : Hp} {a : Addr} {o : HO} : upd H a o a = some o := by unfold upd; rw [if_pos rfl]
theorem upd_ne {H : Hp} {a b : Addr} {o : HO} (h : b ≠ a) : upd H a o b = H b := by unfold upd; rw [if_neg h]
theorem upd_upd {H : Hp} {a : Addr} {o u : HO} : upd (upd H a o) a u = upd H a u := by
  funext b; unfold upd; split <;> rfl
/-- two objects of different content stand apart -/
theorem ne_of {H : Hp} {a b : Addr} {o u : HO} (h : H a = some o) (h' : H b = some u) (d : o ≠ u) : a ≠ b := by
  intro e; subst e; rw [h] at h'; exact d (Option.some.inj h')
theorem ne_of_none {H : Hp} {a b : Addr} {o : HO} (h : H a = some o) (h' : H b = none) : a ≠ b := by
  intro e; subst e; rw [h] at h'; cases h'

section
variable (P : Program) (w : World)
def ObjOk (H : Hp) (h : Heap) (a : Addr) : HO → Prop
  | .lst xs => xs.length ≤ sizeLine ∧ ∃ (its : List Value) (n : Nat), Vals xs its ∧ h.get? a = some { cls := .type "list", data := .seq its.toArray n }
  | .tup xs => (xs.length ≤ sizeLine ∧ ∃ o, h.get? a = some o ∧ o.dict = none) ∧ ∃ its : List Value, Vals xs its ∧ IsTup h a its.toArray
  | .dK kvs => kvs.length ≤ sizeLine ∧ (a == sysModules) = false ∧ ∃ vs, KV kvs vs ∧ h.DictOf (mixKind P w) a vs
  | .dT kvs => kvs.length ≤ sizeLine ∧ (a == sysModules) = false ∧ ∃ xs : List (List Key × Addr × Value),
      Paired (fun (p : List Key × V) (q : List Key × Addr × Value) => p.1 = q.1 ∧ H q.2.1 = some (.tup (p.1.map kV)) ∧ RelV p.2 q.2.2) kvs xs ∧
      ∃ o es ep, h.get? a = some o ∧ o.ExactDict ∧ o.data = .dict es ep ∧ es.toList = xs.map (entryOfKey (tupleKind (mixKind P w))) ∧ (xs.map (·.1)).Nodup
  | .set S n => h.SetOf (intKind P w) a S n
  | .ins C dx fs => H dx = some (.own a) ∧ fs.length ≤ 1000 ∧ dx ≠ a ∧ h.get? a = some (PySem.W.instObj C dx) ∧
      ∃ mA, h.Ns1 dx mA ∧ (∀ f, RelO (fs.lookup f) (mA f)) ∧ PySem.Within mA (fs.map (·.1))
  | .own _ => ∃ o, h.get? a = some o
  | .xd fs => ∃ mA, h.Ns1 a mA ∧ ∀ f, RelO (fs.lookup f) (mA f)
  | .rng lo hi => ∃ t u v, h.get? a = some { cls := .type "range", data := .fields #[.int lo t, .int hi u, .int 1 v] }
  | .frz o u => h.get? a = some o ∧ ObjOk H h a u
  | .tbl ps => h.get? a = some { cls := .none, data := .fields ps }
  | .met f x => h.get? a = some (PySem.W.methodObj (.ref f) (.ref x))
  | .ext φ => φ h ∧ (∃ o, h.get? a = some o) ∧ ∀ h1 h2 : Heap, φ h1 → (∀ o, h1.get? a = some o → h2.get? a = some o) → φ h2
/-- the abstract heap is held -/
def HOk (H : Hp) (h : Heap) : Prop := ∀ a o, H a = some o → ObjOk P w H h a o
end

section
variable {P : Program} {w : World} {H H' : Hp} {h h' : Heap} {a : Addr} {o : HO}
theorem ObjOk.lt (x : ObjOk P w H h a o) : a < h.objs.size := by
  cases o with
  | lst xs => obtain ⟨_, _, _, _, e⟩ := x; exact Heap.lt_size e
  | tup xs => obtain ⟨_, _, _, p⟩ := x; exact p.lt
  | dK kvs => obtain ⟨_, _, _, _, o, _, _, e, _⟩ := x; exact Heap.lt_size e
  | dT kvs => obtain ⟨_, _, _, _, o, _, _, e, _⟩ := x; exact Heap.lt_size e
  | set S n => obtain ⟨o, _, _, _, e, _⟩ := x; exact Heap.lt_size e
  | ins C dx fs => obtain ⟨_, _, _, e, _⟩ := x; exact Heap.lt_size e
  | own y => obtain ⟨_, e⟩ := x; exact Heap.lt_size e
  | xd fs => obtain ⟨_, ⟨_, _, _, e, _⟩, _⟩ := x; exact Heap.lt_size e
  | rng lo hi => obtain ⟨_, _, _, e⟩ := x; exact Heap.lt_size e
  | frz ob u => obtain ⟨e, _⟩ := x; exact Heap.lt_size e
  | tbl ps => exact Heap.lt_size (show h.get? a = some _ from x)
  | met f y => exact Heap.lt_size (show h.get? a = some _ from x)
  | ext φ => obtain ⟨_, ⟨_, e⟩, _⟩ := x; exact Heap.lt_size e
theorem Paired.mapP {α β : Type} {F G : α → β → Prop} : ∀ {l₁ : List α} {l₂ : List β}, Paired F l₁ l₂ → (∀ a b, F a b → G a b) → Paired G l₁ l₂
  | _, _, .nil, _ => .nil
  | _, _, .cons r t, f => .cons (f _ _ r) (Paired.mapP t f)
/-- what an object's description leans on: its own object, its own dict, the tuples -/
theorem ObjOk.stay (x : ObjOk P w H h a o) (k : ∀ b u, (b = a ∨ H b = some (.own a)) → h.get? b = some u → h'.get? b = some u)
    (ho : ∀ b, H b = some (.own a) → H' b = some (.own a)) (ht : ∀ b xs, H b = some (.tup xs) → H' b = some (.tup xs)) : ObjOk P w H' h' a o := by
  induction o with
  | lst xs => obtain ⟨z, its, n, r, e⟩ := x; exact ⟨z, its, n, r, k _ _ (.inl rfl) e⟩
  | tup xs => obtain ⟨⟨z, o2, e2, d2⟩, its, r, ob, e, c⟩ := x; exact ⟨⟨z, o2, k _ _ (.inl rfl) e2, d2⟩, its, r, ob, k _ _ (.inl rfl) e, c⟩
  | dK kvs => obtain ⟨z, y, vs, r, ob, es, ep, e, c⟩ := x; exact ⟨z, y, vs, r, ob, es, ep, k _ _ (.inl rfl) e, c⟩
  | dT kvs =>
    obtain ⟨z, y, xs, r, ob, es, ep, e, c⟩ := x
    exact ⟨z, y, xs, Paired.mapP r fun p q z => ⟨z.1, ht _ _ z.2.1, z.2.2⟩, ob, es, ep, k _ _ (.inl rfl) e, c⟩
  | set S n => obtain ⟨ob, es, ep, t, e, c⟩ := x; exact ⟨ob, es, ep, t, k _ _ (.inl rfl) e, c⟩
  | ins C dx fs =>
    obtain ⟨d, z, ne, e, mA, ⟨od, es, ep, e2, c⟩, r⟩ := x
    exact ⟨ho _ d, z, ne, k _ _ (.inl rfl) e, mA, ⟨od, es, ep, k _ _ (.inr d) e2, c⟩, r⟩
  | own y => obtain ⟨ob, e⟩ := x; exact ⟨ob, k _ _ (.inl rfl) e⟩
  | xd fs => obtain ⟨mA, ⟨od, es, ep, e, c⟩, r⟩ := x; exact ⟨mA, ⟨od, es, ep, k _ _ (.inl rfl) e, c⟩, r⟩
  | rng lo hi => obtain ⟨t, u, v, e⟩ := x; exact ⟨t, u, v, k _ _ (.inl rfl) e⟩
  | frz ob u ih => obtain ⟨e, q⟩ := x; exact ⟨k _ _ (.inl rfl) e, ih q⟩
  | tbl ps =>
    have e : h.get? a = some { cls := .none, data := .fields ps } := x
    show h'.get? a = some { cls := .none, data := .fields ps }
    exact k a _ (.inl rfl) e
  | met f y =>
    have e : h.get? a = some (PySem.W.methodObj (.ref f) (.ref y)) := x
    show h'.get? a = some (PySem.W.methodObj (.ref f) (.ref y))
    exact k a _ (.inl rfl) e
  | ext φ => obtain ⟨p, ⟨o, e⟩, st⟩ := x; exact ⟨st _ _ p fun o q => k _ _ (.inl rfl) q, ⟨o, k _ _ (.inl rfl) e⟩, st⟩
theorem HOk.lt (x : HOk P w H h) (e : H a = some o) : a < h.objs.size := (x a o e).lt
theorem HOk.fresh (x : HOk P w H h) (e : h.objs.size ≤ a) : H a = none := by
  cases q : H a with
  | none => rfl
  | some u => exact absurd (Nat.lt_of_lt_of_le (x.lt q) e) (Nat.lt_irrefl _)
/-- every object of the heap is kept -/
theorem HOk.kept (x : HOk P w H h) (k : ∀ b u, h.get? b = some u → h'.get? b = some u) : HOk P w H h' := fun a o e =>
  (x a o e).stay (fun b u _ q => k b u q) (fun _ q => q) fun _ _ q => q
/-- a new object is laid and tracked -/
theorem HOk.laid (x : HOk P w H h) (k : ∀ b u, h.get? b = some u → h'.get? b = some u) (hp : h.objs.size ≤ a) (new : ObjOk P w (upd H a o) h' a o) : HOk P w (upd H a o) h' := fun b u e => by
  have hn := x.fresh hp
  by_cases hb : b = a
  · subst hb; rw [upd_same] at e; cases e; exact new
  · rw [upd_ne hb] at e
    exact (x b u e).stay (fun c v _ q => k c v q) (fun c q => by rw [upd_ne (ne_of_none q hn)]; exact q) fun c xs q => by rw [upd_ne (ne_of_none q hn)]; exact q
end

/-- what may be read as u: it is u, or a known u -/
def Rd (H : Hp) (a : Addr) (u : HO) : Prop := H a = some u ∨ ∃ o, H a = some (.frz o u)
theorem Rd.ok {P : Program} {w : World} {H : Hp} {h : Heap} {a : Addr} {u : HO} (r : Rd H a u) (x : HOk P w H h) : ObjOk P w H h a u := by
  rcases r with r | ⟨o, r⟩
  · exact x a u r
  · obtain ⟨_, q⟩ := x a _ r
    exact q
/-- what may be written -/
def Mut : Option HO → Prop
  | some (.lst _) => True
  | some (.dK _) => True
  | some (.dT _) => True
  | some (.set _ _) => True
  | some (.ins _ _ _) => True
  | some (.ext _) => True
  | _ => False
section
variable {P : Program} {w : World} {H : Hp} {h h' : Heap} {x e : Addr} {o' : HO}
/-- the object at e is changed: x itself, or the dict of the instance x -/
theorem HOk.write (ok : HOk P w H h) (mu : Mut (H x)) (he : e = x ∨ H e = some (.own x)) (k : ∀ b u, b ≠ e → h.get? b = some u → h'.get? b = some u) (heo : ∃ u, h'.get? e = some u)
    (new : ObjOk P w (upd H x o') h' x o') : HOk P w (upd H x o') h' := fun b u q => by
  have nown : ∀ c y, H c = some (.own y) → c ≠ x := fun c y r z => by subst z; rw [r] at mu; exact mu
  have ntup : ∀ c xs, H c = some (.tup xs) → c ≠ x := fun c xs r z => by subst z; rw [r] at mu; exact mu
  by_cases hb : b = x
  · subst hb; rw [upd_same] at q; cases q; exact new
  · rw [upd_ne hb] at q
    by_cases hbe : b = e
    · have q' : H b = some (.own x) := by
        rcases he with z | z
        · exact absurd (hbe.trans z) hb
        · rw [hbe]; exact z
      rw [q] at q'; cases q'
      obtain ⟨v, hv⟩ := heo
      exact ⟨v, by rw [hbe]; exact hv⟩
    · refine (ok b u q).stay (fun c v hc r => k c v ?_ r) (fun c r => by rw [upd_ne (nown c b r)]; exact r) fun c xs r => by rw [upd_ne (ntup c xs r)]; exact r
      rcases hc with rfl | hc
      · exact hbe
      · rintro rfl
        rcases he with z | z
        · exact nown c b hc z
        · rw [hc] at z; cases z; exact hb rfl
end

/-! ### kept unless tracked; of the frames at fs (the callers') the slots may change (an exception that passes writes there); of the records at ex (iterators) nothing is said -/
structure Un (fs ex : List Addr) (H H' : Hp) (h h' : Heap) : Prop where
  keep : ∀ b o, h.get? b = some o → H b = none → b ∉ fs → b ∉ ex → h'.get? b = some o
  slot : ∀ b o, h.get? b = some o → H b = none → b ∈ fs → b ∉ ex → ∃ sl, h'.get? b = some { o with slots := sl }
  free : ∀ b o, h.get? b = some o → H b = none → b ∉ ex → H' b = none
  there : ∀ b o, h.get? b = some o → b ∉ ex → ∃ o', h'.get? b = some o'
  tups : ∀ b xs, H b = some (.tup xs) → H' b = some (.tup xs)
  frzs : ∀ b o u, H b = some (.frz o u) → H' b = some (.frz o u)
  tbls : ∀ b ps, H b = some (.tbl ps) → ∃ more, H' b = some (.tbl (ps ++ more))
section
variable {fs fs' ex ex' : List Addr} {H H1 H2 : Hp} {h h1 h2 h' : Heap} {a x e : Addr} {o : HO}
theorem Un.any (u : Un fs ex H H1 h h1) {b : Addr} {ob : Obj} (q : h.get? b = some ob) (n : H b = none) (hx : b ∉ ex) : ∃ sl, h1.get? b = some { ob with slots := sl } := by
  by_cases hb : b ∈ fs
  · exact u.slot b ob q n hb hx
  · exact ⟨ob.slots, u.keep b ob q n hb hx⟩
theorem Un.kept (k : ∀ b u, h.get? b = some u → h'.get? b = some u) : Un fs ex H H h h' :=
  ⟨fun b ob q _ _ _ => k b ob q, fun b ob q _ _ _ => ⟨ob.slots, k b ob q⟩, fun _ _ _ n _ => n, fun b ob q _ => ⟨ob, k b ob q⟩, fun _ _ q => q, fun _ _ _ q => q, fun _ ps q => ⟨#[], by rw [q]; simp⟩⟩
theorem Un.refl : Un fs ex H H h h := Un.kept fun _ _ q => q
theorem Un.laid (k : ∀ b u, h.get? b = some u → h'.get? b = some u) (hp : h.objs.size ≤ a) (hn : H a = none) : Un fs ex H (upd H a o) h h' where
  keep := fun b u q _ _ _ => k b u q
  slot := fun b u q _ _ _ => ⟨u.slots, k b u q⟩
  free := fun b u q n _ => by rw [upd_ne (Nat.ne_of_lt (Nat.lt_of_lt_of_le (Heap.lt_size q) hp))]; exact n
  there := fun b u q _ => ⟨u, k b u q⟩
  tups := fun b xs q => by rw [upd_ne (ne_of_none q hn)]; exact q
  frzs := fun b u xs q => by rw [upd_ne (ne_of_none q hn)]; exact q
  tbls := fun b ps q => ⟨#[], by rw [upd_ne (ne_of_none q hn), q]; simp⟩
theorem Un.write (mu : Mut (H x)) (he : e = x ∨ H e = some (.own x)) (k : ∀ b u, b ≠ e → h.get? b = some u → h'.get? b = some u) (heo : ∃ u, h'.get? e = some u) : Un fs ex H (upd H x o) h h' := by
  have hx : ∀ b, H b = none → b ≠ x := fun b n z => by subst z; rw [n] at mu; exact mu
  have hb : ∀ b, H b = none → b ≠ e := fun b n z => by
    subst z
    rcases he with r | r
    · exact hx b n r
    · rw [n] at r; cases r
  have hm : ∀ b u, H b = some u → ¬ Mut (some u) → b ≠ x := fun b u q nm z => by subst z; rw [q] at mu; exact nm mu
  refine ⟨fun b u q n _ _ => k b u (hb b n) q, fun b u q n _ _ => ⟨u.slots, k b u (hb b n) q⟩, fun b u q n _ => by rw [upd_ne (hx b n)]; exact n, fun b u q _ => ?_,
    fun b xs q => by rw [upd_ne (hm b _ q fun z => z)]; exact q, fun b u xs q => by rw [upd_ne (hm b _ q fun z => z)]; exact q, fun b ps q => ⟨#[], by rw [upd_ne (hm b _ q fun z => z), q]; simp⟩⟩
  by_cases hbe : b = e
  · subst hbe; exact heo
  · exact ⟨u, k b u hbe q⟩
end

/-! ### the heap without what is tracked -/
def trk (h : Heap) (H : Hp) : List Addr := (List.range h.objs.size).filter fun a => (H a).isSome
def hidT (h : Heap) (H : Hp) : Heap := PySem.W.hideAll h (trk h H)
theorem hidT_size (h : Heap) (H : Hp) : (hidT h H).objs.size = h.objs.size := PySem.W.hideAll_size _ _
theorem hidT_get {h : Heap} {H : Hp} {b : Addr} {o : Obj} (e : h.get? b = some o) (n : H b = none) : (hidT h H).get? b = some o :=
  PySem.W.hideAll_get _ e fun hm => by
    have q : (H b).isSome = true := (List.mem_filter.mp hm).2
    rw [n] at q; simp at q
theorem of_hidT {h : Heap} {H : Hp} {b : Addr} {o : Obj} (e : (hidT h H).get? b = some o) : h.get? b = some o ∧ H b = none := by
  have e' : h.get? b = some o := PySem.W.of_hideAll (trk h H) e
  refine ⟨e', ?_⟩
  cases q : H b with
  | none => rfl
  | some x =>
    have hm : b ∈ trk h H := List.mem_filter.mpr ⟨List.mem_range.mpr (Heap.lt_size e'), by simp [q]⟩
    have z : (hidT h H).get? b = none := PySem.W.hideAll_none (trk h H) hm
    rw [z] at e; cases e

/-! ### OpenK's ledger, filled with every new object but one -/
def allNews (g h : Heap) (L : Addr) : List (Addr × Obj) := (List.range h.objs.size).filterMap fun a => if a = L ∨ (g.get? a).isSome = true then none else (h.get? a).map fun o => (a, o)
def rest (g h : Heap) (L d : Addr) : List (Addr × Obj) := (allNews g h L).filter fun p => decide (p.1 ≠ d)
end L2

namespace L2
open PySem PySem.Spec PyProof.Rows

/-- the module's facts, over the base: the heap at the law's entry without what is tracked there -/
structure Mod (K : PySem.W.Frag) (mg : Str → Option Value) (base : Heap) : Prop where
  kin : K.In base
  glob : base.Ns mainGlobals mg
  blt : ∃ mb, base.Ns builtinsNs mb ∧ ∀ x : Str, x ≠ "__name__" → mb x = bootBuiltins x
  nolimit : base.NoLimit

/-- the context: a def's body (or a comprehension's block) running. base: fixed through the whole law; s₀, H₀: the entry; outer: the frames whose slots others may change (a def's callers); stack: all frames that run;
   ex: iterators that were made ahead of the entry and are walked here (a comprehension's); fn: the names whose cells were made at the entry (a def: all; a comprehension's block: its own); calm: not within an except suite; pn: pins that every state bears; xe: what is wanted of an exception that leaves the code -/
structure Cx where
  prog : Program
  w : World
  K : PySem.W.Frag
  mg : Str → Option Value
  base : Heap
  A : Around
  N : List Str
  s₀ : Shared
  H₀ : Hp
  env : Env
  outer : List Env
  stack : List Env
  ex : List Addr
  fn : Str → Bool
  calm : Bool
  pn : List (Addr × Obj)
  xe : Value → Shared → Prop
/-- the callers' frames -/
def frs (l : List Env) : List Addr := l.filterMap (·.frame)
abbrev Cx.fs (X : Cx) : List Addr := frs X.outer

def Vis (sc : Scope) (x : Str) : Prop := sc.names.lookup x = some .local ∨ sc.names.lookup x = some .cell ∨ sc.names.lookup x = some .free
def Loc (sc : Scope) (x : Str) : Prop := sc.names.lookup x = some .local ∨ sc.names.lookup x = some .cell
def Look (env : Env) (h : Heap) (m : Str → Option Value) (x : Str) (u : Value) : Prop :=
  (env.kindOf x = some .local ∧ m x = some u) ∨ ((env.kindOf x = some .cell ∨ env.kindOf x = some .free) ∧ ∃ c, env.cells.lookup x = some c ∧ h.IsCell c (some u))

structure Cx.Ok (X : Cx) : Prop where
  mod : Mod X.K X.mg X.base
  kind : X.env.scope.kind = .function
  glob : X.env.globals = mainGlobals
  blt : X.env.builtins = builtinsNs
  above : X.s₀.heap.objs.size ≤ X.env.locals
  inj : ∀ x y c, X.env.cells.lookup x = some c → X.env.cells.lookup y = some c → x = y
  has : ∀ x, (X.env.kindOf x = some .cell ∨ X.env.kindOf x = some .free) → ∃ c, X.env.cells.lookup x = some c
  cab : ∀ x c, X.fn x = true → X.env.cells.lookup x = some c → X.s₀.heap.objs.size ≤ c
  hd : X.calm = true → X.A.handled = none
  frames : X.A.frames = some X.stack
  stk : X.stack = X.outer ∨ (X.stack = X.env :: X.outer ∧ X.env.frame = some X.env.locals)
  exf : ∀ b ∈ X.ex, b ≠ X.env.locals ∧ ∀ x c, X.env.cells.lookup x = some c → c ≠ b
  bs : ∀ b o, X.base.get? b = some o → X.s₀.heap.get? b = some o ∧ X.H₀ b = none
  bsz : X.base.objs.size ≤ X.s₀.heap.objs.size
  noex : ∀ b o, X.base.get? b = some o → b ∉ X.ex
  exfs : ∀ b ∈ X.ex, b ∉ X.fs
  funs : X.s₀.heap.FunFrames X.base X.outer
  frf : ∀ b ∈ X.fs, X.H₀ b = none

structure Inv (X : Cx) (pins : List (Addr × Obj)) (σ : List (Option V)) (H : Hp) (s : Shared) : Prop where
  ok : X.Ok
  os : s.os = X.s₀.os
  bare : AllBare s.gens
  base : Un X.fs X.ex X.H₀ H X.s₀.heap s.heap
  loc : ∃ m, s.heap.Ns X.env.locals m ∧ ∀ (i : Nat) (x : Str) (v : V), X.N[i]? = some x → σ[i]? = some (some v) → Vis X.env.scope x → ∃ u, RelV v u ∧ Look X.env s.heap m x u
  cell : ∀ x c, X.env.cells.lookup x = some c → ∃ v, s.heap.IsCell c v
  free : H X.env.locals = none
  freeC : ∀ x c, X.env.cells.lookup x = some c → H c = none
  pin : ∀ p ∈ X.pn ++ pins, s.heap.get? p.1 = some p.2 ∧ H p.1 = none ∧ p.1 ≠ X.env.locals ∧ p.1 ∉ X.fs ∧ ∀ v, p.2.data ≠ .cell v
  hok : HOk X.prog X.w H s.heap
  len : σ.length = X.N.length

section
variable {X : Cx} {pins : List (Addr × Obj)} {σ : List (Option V)} {H H' : Hp} {s : Shared} {h' : Heap}

theorem Cx.Ok.nofr (ok : X.Ok) {b : Addr} {o : Obj} (e : X.base.get? b = some o) : b ∉ X.fs := fun hb => by
  have := (ok.funs.mem hb).1
  rw [e] at this; cases this
theorem Inv.bs (I : Inv X pins σ H s) : ∀ b o, X.base.get? b = some o → s.heap.get? b = some o ∧ H b = none := fun b o e =>
  ⟨I.base.keep b o (I.ok.bs b o e).1 (I.ok.bs b o e).2 (I.ok.nofr e) (I.ok.noex b o e), I.base.free b o (I.ok.bs b o e).1 (I.ok.bs b o e).2 (I.ok.noex b o e)⟩
theorem Inv.bk (I : Inv X pins σ H s) : ∀ b o, X.base.get? b = some o → s.heap.get? b = some o := fun b o e => (I.bs b o e).1
theorem Inv.mod (I : Inv X pins σ H s) : Mod X.K X.mg X.base := I.ok.mod
theorem Inv.kIn (I : Inv X pins σ H s) : X.K.In s.heap := I.ok.mod.kin.keeps I.bk
theorem Inv.lt (I : Inv X pins σ H s) : X.env.locals < s.heap.objs.size := let ⟨_, hn, _⟩ := I.loc; hn.lt
theorem Inv.sz (I : Inv X pins σ H s) : X.s₀.heap.objs.size ≤ s.heap.objs.size := Nat.le_trans I.ok.above (Nat.le_of_lt I.lt)
theorem Inv.nofs (I : Inv X pins σ H s) {a : Addr} (h : s.heap.objs.size ≤ a) : a ∉ X.fs := fun hb => by
  obtain ⟨_, o, ho, _⟩ := I.ok.funs.mem hb
  exact absurd (Nat.lt_of_lt_of_le (Heap.lt_size ho) (Nat.le_trans I.sz h)) (Nat.lt_irrefl _)
theorem Inv.cne (I : Inv X pins σ H s) : ∀ x c, X.env.cells.lookup x = some c → c ≠ X.env.locals := fun x c e z => by
  obtain ⟨v, o, ho, hd⟩ := I.cell x c e
  obtain ⟨m, ⟨o', es, ep, ho', hd', _⟩, _⟩ := I.loc
  rw [z, ho'] at ho; cases ho; rw [hd'] at hd; cases hd
theorem Inv.funs (I : Inv X pins σ H s) : s.heap.FunFrames X.base X.outer := by
  have all : ∀ (l : List Env), (∀ b ∈ frs l, b ∈ X.fs) → X.s₀.heap.FunFrames X.base l → s.heap.FunFrames X.base l := by
    intro l
    induction l with
    | nil => intro _ _; trivial
    | cons env r ih =>
      intro hs hl
      obtain ⟨hk, ⟨L, o, hf, hn, ho, hd⟩, hr⟩ := hl
      have hL : L ∈ X.fs := hs L (by unfold frs; rw [List.filterMap_cons, hf]; exact List.mem_cons_self)
      obtain ⟨sl, e⟩ := I.base.slot L o ho (I.ok.frf L hL) hL fun z => I.ok.exfs L z hL
      exact ⟨hk, ⟨L, _, hf, hn, e, hd⟩, ih (fun b hb => hs b (by unfold frs; rw [List.filterMap_cons, hf]; exact List.mem_cons_of_mem _ hb)) hr⟩
  exact all X.outer (fun _ hb => hb) I.ok.funs

/-- the frames that run, for a call -/
theorem Inv.stack (I : Inv X pins σ H s) : s.heap.FunFrames X.base X.stack := by
  rcases I.ok.stk with e | ⟨e, hf⟩
  · rw [e]; exact I.funs
  · rw [e]
    obtain ⟨m, hn, _⟩ := I.loc
    refine .cons (by rw [I.ok.kind]; decide) hf hn ?_ I.funs
    exact Heap.get?_none_of_le (Nat.le_trans I.ok.bsz I.ok.above)
theorem Inv.stkSub (I : Inv X pins σ H s) : ∀ b ∈ frs X.stack, b ∈ X.env.locals :: X.fs := fun b hb => by
  rcases I.ok.stk with e | ⟨e, hf⟩
  · rw [e] at hb; exact List.mem_cons_of_mem _ hb
  · rw [e] at hb
    unfold frs at hb
    rw [List.filterMap_cons, hf] at hb
    exact hb
theorem Inv.stkFree (I : Inv X pins σ H s) : ∀ b ∈ frs X.stack, H b = none := fun b hb => by
  rcases List.mem_cons.mp (I.stkSub b hb) with e | hb
  · rw [e]; exact I.free
  · obtain ⟨_, o, ho, _⟩ := I.ok.funs.mem hb
    exact I.base.free b o ho (I.ok.frf b hb) fun z => I.ok.exfs b z hb

/-- THE STEP: the untracked objects but the frame and the records at ch are kept (the callers' frames up to slots), the frame's map is kept, the new abstract heap is held -/
theorem Inv.step {g' : Array GenState} {t' : Nat} {d' : Drawn} {ch : List Addr} (I : Inv X pins σ H s)
    (hch : ∀ b ∈ ch, (b ∈ X.ex ∨ X.s₀.heap.objs.size ≤ b) ∧ b ≠ X.env.locals ∧ (∀ x c, X.env.cells.lookup x = some c → c ≠ b) ∧ ∀ p ∈ X.pn ++ pins, p.1 ≠ b)
    (keep : ∀ b o, b ≠ X.env.locals → b ∉ X.fs → b ∉ ch → s.heap.get? b = some o → H b = none → h'.get? b = some o)
    (slot : ∀ b o, b ≠ X.env.locals → b ∈ X.fs → b ∉ ch → s.heap.get? b = some o → H b = none → ∃ sl, h'.get? b = some { o with slots := sl }) (free : ∀ b o, b ∉ ch → s.heap.get? b = some o → H b = none → H' b = none)
    (there : ∀ b o, b ∉ ch → s.heap.get? b = some o → ∃ o', h'.get? b = some o')
    (tups : ∀ b xs, H b = some (.tup xs) → H' b = some (.tup xs)) (frzs : ∀ b o u, H b = some (.frz o u) → H' b = some (.frz o u)) (tbls : ∀ b ps, H b = some (.tbl ps) → ∃ more, H' b = some (.tbl (ps ++ more)))
    (ns : ∀ m, s.heap.Ns X.env.locals m → h'.Ns X.env.locals m) (hok : HOk X.prog X.w H' h') (hg : AllBare g') :
    Inv X pins σ H' { s with heap := h', gens := g', drawn := d', toks := t' } := by
  have neL : ∀ b o, X.s₀.heap.get? b = some o → b ≠ X.env.locals := fun b o e => Nat.ne_of_lt (Nat.lt_of_lt_of_le (Heap.lt_size e) I.ok.above)
  have neC : ∀ b o, X.s₀.heap.get? b = some o → b ∉ X.ex → b ∉ ch := fun b o e hx hb => by
    rcases (hch b hb).1 with z | z
    · exact hx z
    · exact absurd (Nat.lt_of_lt_of_le (Heap.lt_size e) z) (Nat.lt_irrefl _)
  have cellK : ∀ x c, X.env.cells.lookup x = some c → ∀ v, s.heap.IsCell c v → h'.IsCell c v := fun x c e v ⟨o, ho, hd⟩ => by
    have nch : c ∉ ch := fun z => (hch c z).2.2.1 x c e rfl
    by_cases hc : c ∈ X.fs
    · obtain ⟨sl, q⟩ := slot c o (I.cne x c e) hc nch ho (I.freeC x c e)
      exact ⟨_, q, hd⟩
    · exact ⟨o, keep c o (I.cne x c e) hc nch ho (I.freeC x c e), hd⟩
  refine ⟨I.ok, I.os, hg, ⟨fun b o e n hb hx => ?_, fun b o e n hb hx => ?_, fun b o e n hx => ?_, fun b o e hx => ?_, fun b xs e => tups b xs (I.base.tups b xs e), fun b o xs e => frzs b o xs (I.base.frzs b o xs e), fun b ps e => ?_⟩, ?_, fun x c e => ?_, ?_, fun x c e => ?_, fun p hp => ?_, hok, I.len⟩
  · exact keep b o (neL b o e) hb (neC b o e hx) (I.base.keep b o e n hb hx) (I.base.free b o e n hx)
  · obtain ⟨sl, e1⟩ := I.base.slot b o e n hb hx
    obtain ⟨sl', e2⟩ := slot b _ (neL b o e) hb (neC b o e hx) e1 (I.base.free b o e n hx)
    exact ⟨sl', e2⟩
  · obtain ⟨o', e1⟩ := I.base.there b o e hx
    exact free b o' (neC b o e hx) e1 (I.base.free b o e n hx)
  · obtain ⟨o', e1⟩ := I.base.there b o e hx
    exact there b o' (neC b o e hx) e1
  · obtain ⟨m1, e1⟩ := I.base.tbls b ps e
    obtain ⟨m2, e2⟩ := tbls b _ e1
    exact ⟨m1 ++ m2, by rw [e2, Array.append_assoc]⟩
  · obtain ⟨m, hn, hl⟩ := I.loc
    refine ⟨m, ns m hn, fun i x v e1 e2 e3 => ?_⟩
    obtain ⟨u, r, l⟩ := hl i x v e1 e2 e3
    refine ⟨u, r, ?_⟩
    rcases l with l | ⟨k, c, e, z⟩
    · exact .inl l
    · exact .inr ⟨k, c, e, cellK x c e _ z⟩
  · obtain ⟨v, z⟩ := I.cell x c e
    exact ⟨v, cellK x c e v z⟩
  · obtain ⟨m, ⟨o, _, _, ho, _⟩, _⟩ := I.loc
    exact free _ o (fun z => (hch _ z).2.1 rfl) ho I.free
  · obtain ⟨v, o, ho, hd⟩ := I.cell x c e
    exact free c o (fun z => (hch c z).2.2.1 x c e rfl) ho (I.freeC x c e)
  · obtain ⟨e, n, ne, nf, d⟩ := I.pin p hp
    have nch : p.1 ∉ ch := fun z => (hch p.1 z).2.2.2 p hp rfl
    exact ⟨keep p.1 p.2 ne nf nch e n, free p.1 p.2 nch e n, ne, nf, d⟩
/-- .. where the frame's own object is kept too -/
theorem Inv.un {t' : Nat} (I : Inv X pins σ H s) (u : Un X.fs [] H H' s.heap h') (hok : HOk X.prog X.w H' h') : Inv X pins σ H' { s with heap := h', toks := t' } := by
  obtain ⟨m, ⟨o, es, ep, ho, r⟩, _⟩ := id I.loc
  obtain ⟨sl, hL⟩ := u.any ho I.free (by simp)
  exact I.step (g' := s.gens) (d' := s.drawn) (ch := []) (fun _ z => nomatch z) (fun b o _ hb _ e n => u.keep b o e n hb (by simp)) (fun b o _ hb _ e n => u.slot b o e n hb (by simp)) (fun b o _ e n => u.free b o e n (by simp)) (fun b o _ e => u.there b o e (by simp)) u.tups u.frzs u.tbls (fun m' hm => by
    obtain ⟨o', es', ep', ho', r'⟩ := hm
    rw [ho] at ho'; cases ho'
    exact ⟨_, es', ep', hL, r'⟩) hok I.bare
/-- behind a call (or a comprehension's block): the slots of this frame may have changed too, the records at ch may have turned -/
theorem Inv.call {g' : Array GenState} {t' : Nat} {d' : Drawn} {ch : List Addr} (I : Inv X pins σ H s) (u : Un (frs X.stack) ch H H' s.heap h') (hok : HOk X.prog X.w H' h') (hg : AllBare g')
    (hch : ∀ b ∈ ch, (b ∈ X.ex ∨ X.s₀.heap.objs.size ≤ b) ∧ b ≠ X.env.locals ∧ (∀ x c, X.env.cells.lookup x = some c → c ≠ b) ∧ ∀ p ∈ X.pn ++ pins, p.1 ≠ b) :
    Inv X pins σ H' { s with heap := h', gens := g', drawn := d', toks := t' } := by
  obtain ⟨m, ⟨o, es, ep, ho, r⟩, _⟩ := id I.loc
  obtain ⟨sl, hL⟩ := u.any ho I.free fun z => (hch _ z).2.1 rfl
  exact I.step (ch := ch) hch (fun b o hL hb hc e n => u.keep b o e n (fun z => (List.mem_cons.mp (I.stkSub b z)).elim hL hb) hc) (fun b o _ _ hc e n => u.any e n hc) (fun b o hc e n => u.free b o e n hc) (fun b o hc e => u.there b o e hc) u.tups u.frzs u.tbls (fun m' hm => by
    obtain ⟨o', es', ep', ho', r'⟩ := hm
    rw [ho] at ho'; cases ho'
    exact ⟨_, es', ep', hL, r'⟩) hok hg
/-- an untracked record of ours (an iterator) has turned -/
theorem Inv.turned {t' : Nat} {it : Addr} (I : Inv X pins σ H s) (k : ∀ b o, b ≠ it → s.heap.get? b = some o → h'.get? b = some o) (hn : H it = none) (hL : it ≠ X.env.locals)
    (h1 : it ∈ X.ex ∨ X.s₀.heap.objs.size ≤ it) (h2 : ∀ x c, X.env.cells.lookup x = some c → c ≠ it) (h3 : ∀ p ∈ X.pn ++ pins, p.1 ≠ it) : Inv X pins σ H { s with heap := h', toks := t' } := by
  have nit : ∀ b u, H b = some u → b ≠ it := fun b u e z => by rw [z, hn] at e; cases e
  refine I.step (g' := s.gens) (d' := s.drawn) (ch := [it]) (fun b hb => ?_) (fun b o _ _ hc e _ => k b o (fun z => hc (by simp [z])) e) (fun b o _ _ hc e _ => ⟨o.slots, k b o (fun z => hc (by simp [z])) e⟩) (fun _ _ _ _ n => n)
    (fun b o hc e => ⟨o, k b o (fun z => hc (by simp [z])) e⟩) (fun _ _ e => e) (fun _ _ _ e => e) (fun b ps e => ⟨#[], by rw [e]; simp⟩) (fun m hm => ?_) (fun b u e => ?_) I.bare
  · have e : b = it := by simpa using hb
    subst e
    exact ⟨h1, hL, h2, h3⟩
  · obtain ⟨o, es, ep, ho, r⟩ := hm
    exact ⟨o, es, ep, k _ o (Ne.symm hL) ho, r⟩
  · refine (I.hok b u e).stay (fun c v hc q => k c v ?_ q) (fun _ q => q) fun _ _ q => q
    rcases hc with z | z
    · rw [z]; exact nit b u e
    · exact nit c _ z
theorem Inv.tok (I : Inv X pins σ H s) (t : Nat) : Inv X pins σ H { s with toks := t } := I.un (h' := s.heap) (t' := t) Un.refl I.hok
/-- all objects kept -/
theorem Inv.kept {t' : Nat} (I : Inv X pins σ H s) (k : ∀ b u, s.heap.get? b = some u → h'.get? b = some u) : Inv X pins σ H { s with heap := h', toks := t' } := I.un (Un.kept k) (I.hok.kept k)
/-- a new object laid and tracked -/
theorem Inv.laid {a : Addr} {o : HO} {t' : Nat} (I : Inv X pins σ H s) (k : ∀ b u, s.heap.get? b = some u → h'.get? b = some u) (hp : s.heap.objs.size ≤ a) (new : ObjOk X.prog X.w (upd H a o) h' a o) :
    Inv X pins σ (upd H a o) { s with heap := h', toks := t' } := I.un (Un.laid k hp (I.hok.fresh hp)) (I.hok.laid k hp new)
/-- an object written -/
theorem Inv.write {x e : Addr} {o : HO} {t' : Nat} (I : Inv X pins σ H s) (mu : Mut (H x)) (he : e = x ∨ H e = some (.own x)) (k : ∀ b u, b ≠ e → s.heap.get? b = some u → h'.get? b = some u) (heo : ∃ u, h'.get? e = some u)
    (new : ObjOk X.prog X.w (upd H x o) h' x o) : Inv X pins σ (upd H x o) { s with heap := h', toks := t' } := I.un (Un.write mu he k heo) (I.hok.write mu he k heo new)
/-- forgetting slots, pins -/
theorem Inv.weak {σ' : List (Option V)} (I : Inv X pins σ H s) (hl : σ'.length = σ.length) (w : ∀ (i : Nat) v, σ'[i]? = some (some v) → σ[i]? = some (some v)) : Inv X pins σ' H s :=
  ⟨I.ok, I.os, I.bare, I.base, let ⟨m, hn, hl'⟩ := I.loc; ⟨m, hn, fun i x v e1 e2 e3 => hl' i x v e1 (w i v e2) e3⟩, I.cell, I.free, I.freeC, I.pin, I.hok, hl.trans I.len⟩
theorem Inv.pins_of {pins' : List (Addr × Obj)} (I : Inv X pins σ H s) (h : ∀ p ∈ pins', s.heap.get? p.1 = some p.2 ∧ H p.1 = none ∧ p.1 ≠ X.env.locals ∧ p.1 ∉ X.fs ∧ ∀ v, p.2.data ≠ .cell v) : Inv X pins' σ H s :=
  ⟨I.ok, I.os, I.bare, I.base, I.loc, I.cell, I.free, I.freeC, fun p hp => (List.mem_append.mp hp).elim (fun z => I.pin p (List.mem_append_left _ z)) (h p), I.hok, I.len⟩

theorem nodup_ix {N : List Str} (hN : N.Nodup) {i j : Nat} {x : Str} (a : N[i]? = some x) (b : N[j]? = some x) : i = j := by
  obtain ⟨h1, e1⟩ := List.getElem?_eq_some_iff.mp a
  obtain ⟨h2, e2⟩ := List.getElem?_eq_some_iff.mp b
  exact (List.getElem_inj hN).mp (e1.trans e2.symm)

/-- a name is stored; what changed -/
theorem store_ok2 {M : Model} {A : Around} {E : Value → Shared → Prop} {i : Nat} {x : Str} {v : V} {u : Value} {Q : Unit → Shared → Prop} (I : Inv X pins σ H s) (hN : X.N.Nodup) (hi : X.N[i]? = some x) (hx : Loc X.env.scope x) (r : RelV v u)
    (h : ∀ s', Inv X pins (σ.set i (some v)) H s' → (∃ a, Heap.SameBut a s.heap s'.heap ∧ (a = X.env.locals ∨ X.env.cells.lookup x = some a)) → Q () s') (hf : X.fn x = true ∨ X.env.scope.names.lookup x = some .local := by first | exact .inl rfl | exact .inr rfl | assumption) : wpAny M A (storeName X.env x u) Q E s := by
  obtain ⟨m, hn, hl⟩ := id I.loc
  have hcls : (X.env.scope.kind == .class || (X.env.scope.kind == .module && X.env.locals != X.env.globals)) = false := by rw [I.ok.kind]; rfl
  have hiσ : i < σ.length := by rw [I.len]; exact (List.getElem?_eq_some_iff.mp hi).1
  have cne := I.cne
  have tracked : ∀ {a : Addr} {h' : Heap}, (∃ o, s.heap.get? a = some o ∧ H a = none) → Heap.SameBut a s.heap h' → HOk X.prog X.w H h' := fun {a h'} ha hs b ob e => by
    obtain ⟨_, _, hfree⟩ := ha
    refine (I.hok b ob e).stay (fun c w' hc q => (hs.2 c ?_).trans q) (fun _ q => q) fun _ _ q => q
    rintro rfl
    rcases hc with rfl | hc
    · rw [hfree] at e; cases e
    · rw [hfree] at hc; cases hc
  rcases hx with hk | hk
  · refine wpAny_storeName_local hk hn (fun h' hn' hs => ?_) hcls
    obtain ⟨oL, _, _, hoL, _⟩ := id hn
    refine h _ ⟨I.ok, I.os, I.bare, ⟨fun b o e n hb hx => ?_, fun b o e n hb hx => ?_, I.base.free, fun b o e hx => ?_, I.base.tups, I.base.frzs, I.base.tbls⟩, ⟨_, hn', fun j y v' e1 e2 e3 => ?_⟩, fun y c e => ?_, I.free, I.freeC, fun p hp => ?_, tracked ⟨oL, hoL, I.free⟩ hs, by simpa using I.len⟩ ⟨_, hs, .inl rfl⟩
    · exact (hs.2 b (Nat.ne_of_lt (Nat.lt_of_lt_of_le (Heap.lt_size e) I.ok.above))).trans (I.base.keep b o e n hb hx)
    · obtain ⟨sl, e1⟩ := I.base.slot b o e n hb hx
      exact ⟨sl, (hs.2 b (Nat.ne_of_lt (Nat.lt_of_lt_of_le (Heap.lt_size e) I.ok.above))).trans e1⟩
    · obtain ⟨o', e1⟩ := I.base.there b o e hx
      exact ⟨o', (hs.2 b (Nat.ne_of_lt (Nat.lt_of_lt_of_le (Heap.lt_size e) I.ok.above))).trans e1⟩
    · by_cases hj : j = i
      · subst hj
        rw [hi] at e1; cases e1
        rw [List.getElem?_set_self hiσ] at e2
        cases e2
        exact ⟨u, r, .inl ⟨hk, by simp⟩⟩
      · rw [List.getElem?_set_ne (Ne.symm hj)] at e2
        obtain ⟨u', r', q⟩ := hl j y v' e1 e2 e3
        refine ⟨u', r', ?_⟩
        rcases q with ⟨k, e⟩ | ⟨k, c, e, z⟩
        · refine .inl ⟨k, ?_⟩
          have : y ≠ x := fun e => hj (nodup_ix hN e1 (e ▸ hi))
          simp [this, e]
        · exact .inr ⟨k, c, e, z.sameBut hs (cne y c e)⟩
    · obtain ⟨w', z⟩ := I.cell y c e
      exact ⟨w', z.sameBut hs (cne y c e)⟩
    · obtain ⟨e, n, ne, nf, d⟩ := I.pin p hp
      exact ⟨(hs.2 p.1 ne).trans e, n, ne, nf, d⟩
  · have hfn : X.fn x = true := by
      rcases hf with z | z
      · exact z
      · rw [z] at hk; cases hk
    obtain ⟨c, hc⟩ := I.ok.has x (.inl hk)
    obtain ⟨w', z⟩ := I.cell x c hc
    refine wpAny_storeName_cell I.ok.kind hk hc z (fun h' hc' hs => ?_)
    obtain ⟨oc, hoc, hocd⟩ := id z
    refine h { s with heap := h' } ⟨I.ok, I.os, I.bare, ⟨fun b o e n hb hx => ?_, fun b o e n hb hx => ?_, I.base.free, fun b o e hx => ?_, I.base.tups, I.base.frzs, I.base.tbls⟩, ⟨m, hn.sameBut hs (Ne.symm (cne x c hc)), fun j y v' e1 e2 e3 => ?_⟩, fun y c' e => ?_, I.free, I.freeC, fun p hp => ?_, tracked ⟨oc, hoc, I.freeC x c hc⟩ hs, by simpa using I.len⟩ ⟨c, hs, .inr hc⟩
    · exact (hs.2 b (Nat.ne_of_lt (Nat.lt_of_lt_of_le (Heap.lt_size e) (I.ok.cab x c hfn hc)))).trans (I.base.keep b o e n hb hx)
    · obtain ⟨sl, e1⟩ := I.base.slot b o e n hb hx
      exact ⟨sl, (hs.2 b (Nat.ne_of_lt (Nat.lt_of_lt_of_le (Heap.lt_size e) (I.ok.cab x c hfn hc)))).trans e1⟩
    · obtain ⟨o', e1⟩ := I.base.there b o e hx
      exact ⟨o', (hs.2 b (Nat.ne_of_lt (Nat.lt_of_lt_of_le (Heap.lt_size e) (I.ok.cab x c hfn hc)))).trans e1⟩
    · by_cases hj : j = i
      · subst hj
        rw [hi] at e1; cases e1
        rw [List.getElem?_set_self hiσ] at e2
        cases e2
        exact ⟨u, r, .inr ⟨.inl hk, c, hc, hc'⟩⟩
      · rw [List.getElem?_set_ne (Ne.symm hj)] at e2
        obtain ⟨u', r', q⟩ := hl j y v' e1 e2 e3
        refine ⟨u', r', ?_⟩
        rcases q with q | ⟨k, c', e, z'⟩
        · exact .inl q
        · refine .inr ⟨k, c', e, z'.sameBut hs ?_⟩
          rintro rfl
          exact hj (nodup_ix hN e1 (I.ok.inj _ _ _ e hc ▸ hi))
    · by_cases hcc : c' = c
      · subst hcc; exact ⟨_, hc'⟩
      · obtain ⟨w2, z2⟩ := I.cell y c' e
        exact ⟨w2, z2.sameBut hs hcc⟩
    · obtain ⟨e, n, ne, nf, d⟩ := I.pin p hp
      refine ⟨(hs.2 p.1 ?_).trans e, n, ne, nf, d⟩
      intro q
      rw [q, hoc] at e
      have q' : oc = p.2 := Option.some.inj e
      exact d w' (by rw [← q']; exact hocd)
theorem store_ok {M : Model} {A : Around} {E : Value → Shared → Prop} {i : Nat} {x : Str} {v : V} {u : Value} {Q : Unit → Shared → Prop} (I : Inv X pins σ H s) (hN : X.N.Nodup) (hi : X.N[i]? = some x) (hx : Loc X.env.scope x) (r : RelV v u)
    (h : ∀ s', Inv X pins (σ.set i (some v)) H s' → Q () s') (hf : X.fn x = true ∨ X.env.scope.names.lookup x = some .local := by first | exact .inl rfl | exact .inr rfl | assumption) : wpAny M A (storeName X.env x u) Q E s :=
  store_ok2 I hN hi hx r (fun s' I' _ => h s' I') hf
/-- behind a call or a block, the state as it is -/
theorem Inv.call' {s' : Shared} {ch : List Addr} (I : Inv X pins σ H s) (ho : s'.os = s.os) (u : Un (frs X.stack) ch H H' s.heap s'.heap) (hok : HOk X.prog X.w H' s'.heap) (hg : AllBare s'.gens)
    (hch : ∀ b ∈ ch, (b ∈ X.ex ∨ X.s₀.heap.objs.size ≤ b) ∧ b ≠ X.env.locals ∧ (∀ x c, X.env.cells.lookup x = some c → c ≠ b) ∧ ∀ p ∈ X.pn ++ pins, p.1 ≠ b) : Inv X pins σ H' s' := by
  obtain ⟨h', g', d', t', o'⟩ := s'
  have e : o' = s.os := ho
  subst e
  exact I.call (g' := g') (t' := t') (d' := d') u hok hg hch
end

/-! ### the judgements -/
/-- an exception: its class, its own dict's address (where it has one), the abstract heap behind it -/
abbrev XK := Value → Option Addr → Hp → Prop
abbrev St := List (Option V)
abbrev VK := V → Hp → Prop
/-- an expression's reading; a test's; an argument list's -/
abbrev TE := St → Hp → VK → Prop
abbrev TT := St → Hp → (Bool → Hp → Prop) → Prop
abbrev TA := St → Hp → (List V → Hp → Prop) → Prop
/-- what is wanted behind a statement -/
structure Ends where
  nx : St → Hp → Prop
  rt : VK
  bk : St → Hp → Prop := fun _ _ => False
  ct : St → Hp → Prop := fun _ _ => False
abbrev TS := Ends → St → Hp → Prop

def EP (X : Cx) (pins : List (Addr × Obj)) (σ : St) (Q : VK) (u : Value) (s' : Shared) : Prop := ∃ v H', Inv X pins σ H' s' ∧ RelV v u ∧ Q v H'
def TP (X : Cx) (pins : List (Addr × Obj)) (σ : St) (Q : Bool → Hp → Prop) (b : Bool) (s' : Shared) : Prop := ∃ H', Inv X pins σ H' s' ∧ Q b H'
def AP (X : Cx) (pins : List (Addr × Obj)) (σ : St) (Q : List V → Hp → Prop) (us : List Value) (s' : Shared) : Prop := ∃ vs H', Inv X pins σ H' s' ∧ Vals vs us ∧ Q vs H'
def SP (X : Cx) (pins : List (Addr × Obj)) (D : Ends) (f : Flow) (s' : Shared) : Prop :=
  match f with
  | .next => ∃ σ' H', Inv X pins σ' H' s' ∧ D.nx σ' H'
  | .brk => ∃ σ' H', Inv X pins σ' H' s' ∧ D.bk σ' H'
  | .cont => ∃ σ' H', Inv X pins σ' H' s' ∧ D.ct σ' H'
  | .ret u => ∃ v σ' H', Inv X pins σ' H' s' ∧ RelV v u ∧ D.rt v H'

def PE (X : Cx) (e : Expr) (t : TE) : Prop :=
  ∀ (pins : List (Addr × Obj)) (s : Shared) (σ : St) (H : Hp) (Q : VK), Inv X pins σ H s → t σ H Q → wpAny (model X.prog X.w) X.A (eval e X.env) (EP X pins σ Q) X.xe s
def PT (X : Cx) (e : Expr) (t : TT) : Prop :=
  ∀ (pins : List (Addr × Obj)) (s : Shared) (σ : St) (H : Hp) (Q : Bool → Hp → Prop), Inv X pins σ H s → t σ H Q → wpAny (model X.prog X.w) X.A (isTrue e X.env (eval e X.env)) (TP X pins σ Q) X.xe s
/-- a test whatever its 'whole' is (and, or) -/
def PW (X : Cx) (e : Expr) (t : TT) : Prop :=
  ∀ (whole : Sem Value) (pins : List (Addr × Obj)) (s : Shared) (σ : St) (H : Hp) (Q : Bool → Hp → Prop), Inv X pins σ H s → t σ H Q → wpAny (model X.prog X.w) X.A (isTrue e X.env whole) (TP X pins σ Q) X.xe s
theorem PW.pt {X : Cx} {e : Expr} {t : TT} (h : PW X e t) : PT X e t := h _
/-- an argument list (no star), from the left -/
def PA (X : Cx) (es : List Expr) (t : TA) : Prop :=
  ∀ (pos : Pos) (pins : List (Addr × Obj)) (s : Shared) (σ : St) (H : Hp) (Q : List V → Hp → Prop), Inv X pins σ H s → t σ H Q → wpAny (model X.prog X.w) X.A (spliced (backTo pos (starEach es X.env))) (AP X pins σ Q) X.xe s
def PS (X : Cx) (st : Stmt) (t : TS) : Prop :=
  ∀ (pins : List (Addr × Obj)) (s : Shared) (σ : St) (H : Hp) (D : Ends), Inv X pins σ H s → t D σ H → wpAny (model X.prog X.w) X.A (exec st X.env) (SP X pins D) X.xe s
def PSs (X : Cx) (st : List Stmt) (t : TS) : Prop :=
  ∀ (pins : List (Addr × Obj)) (s : Shared) (σ : St) (H : Hp) (D : Ends), Inv X pins σ H s → t D σ H → wpAny (model X.prog X.w) X.A (execs st X.env) (SP X pins D) X.xe s
/-- weaken the end -/
theorem thn {α : Type} {t : Sem α} {Q Q' : α → Shared → Prop} {M : Model} {A : Around} {E : Value → Shared → Prop} {s : Shared} (h : wpAny M A t Q E s) (hQ : ∀ a s, Q a s → Q' a s) : wpAny M A t Q' E s := wpAny_mono h hQ fun _ _ x => x
end L2

namespace L2
open PySem PySem.Spec PyProof.Rows
section
variable {X : Cx}

/-- two expressions in a row -/
theorem bin {a b : Expr} {ta tb : TE} (ha : PE X a ta) (hb : PE X b tb) {pins : List (Addr × Obj)} {s : Shared} {σ : St} {H : Hp} {R : V → V → Hp → Prop} (I : Inv X pins σ H s) (h : ta σ H fun x H1 => tb σ H1 fun y H2 => R x y H2)
    {α : Type} {Q : α → Shared → Prop} {f : Value → Value → Sem α}
    (hf : ∀ v u s2 x y H2, Inv X pins σ H2 s2 → RelV x v → RelV y u → R x y H2 → wpAny (model X.prog X.w) X.A (f v u) Q X.xe s2) :
    wpAny (model X.prog X.w) X.A (eval a X.env) (fun v s₁ => wpAny (model X.prog X.w) X.A (eval b X.env) (fun u s₂ => wpAny (model X.prog X.w) X.A (f v u) Q X.xe s₂) X.xe s₁) X.xe s := by
  refine thn (ha pins s σ H _ I h) fun v s1 ⟨x, H1, I1, r1, q1⟩ => ?_
  refine thn (hb pins s1 σ H1 _ I1 q1) fun u s2 ⟨y, H2, I2, r2, q2⟩ => ?_
  exact hf v u s2 x y H2 I2 r1 r2 q2

/-! ### names and constants -/
def tVar (i : Nat) : TE := fun σ H Q => ∃ v, σ[i]? = some (some v) ∧ Q v H
def tC (v : V) : TE := fun _ H Q => Q v H
theorem pe_var {i : Nat} {x : Str} {pos : Pos} (hN : X.N[i]? = some x) (hv : Vis X.env.scope x) (hd : (x == ("__debug__" : Str)) = false := by decide) (hcd : (x == ("__classdict__" : Str)) = false := by decide) : PE X (.Name x pos) (tVar i) := by
  intro pins s σ H Q I h
  obtain ⟨v, e, h⟩ := h
  obtain ⟨m, hn, hl⟩ := I.loc
  obtain ⟨u, r, l⟩ := hl i x v hN e hv
  have fin : EP X pins σ Q u s := ⟨v, H, I, r, h⟩
  rcases l with ⟨hk, hm⟩ | ⟨hk, c, hc, hcell⟩
  · exact wpAny_Name (wpAny_loadName_local I.ok.kind hk hn hm fin) hd
  · rcases hk with hk | hk
    · exact wpAny_Name (wpAny_loadName_cell I.ok.kind hk hc hcell fin) hd
    · exact wpAny_Name (wpAny_loadName_free I.ok.kind hk hc hcell fin hcd) hd
theorem pe_int {i j pos} : PE X (.Constant (.int i) j pos) (tC (.int i)) := fun _ _ _ H _ I h => wpAny_Constant_int ⟨.int i, H, I.tok _, ⟨_, rfl⟩, h⟩
theorem pe_bl {b j pos} : PE X (.Constant (.bool b) j pos) (tC (.bl b)) := fun _ _ _ H _ I h => Constant_bool ⟨.bl b, H, I, rfl, h⟩
theorem pe_non {j pos} : PE X (.Constant .none j pos) (tC .non) := fun _ _ _ H _ I h => Constant_none ⟨.non, H, I, rfl, h⟩
theorem pe_str {x j pos} : PE X (.Constant (.str x) j pos) (tC (.str x)) := fun _ _ _ H _ I h => Calls.Constant_str ⟨.str x, H, I.tok _, ⟨_, rfl⟩, h⟩

/-- a global name of the def -/
def Gl (X : Cx) (x : Str) : Prop := X.env.kindOf x = some .globalImplicit
theorem ld_glob {E : Value → Shared → Prop} {pins : List (Addr × Obj)} {s : Shared} {σ : St} {H : Hp} {x : Str} {u : Value} {pos : Pos} {Q : Value → Shared → Prop} (I : Inv X pins σ H s) (hg : Gl X x) (hm : X.mg x = some u) (h : Q u s)
    (hd : (x == ("__debug__" : Str)) = false := by decide) : wpAny (model X.prog X.w) X.A (eval (.Name x pos) X.env) Q E s :=
  Calls.Name_function_global I.ok.kind hg (Calls.loadGlobal_global (by rw [I.ok.glob]; exact I.mod.glob.keeps I.bk) hm h) hd
theorem ld_blt {E : Value → Shared → Prop} {pins : List (Addr × Obj)} {s : Shared} {σ : St} {H : Hp} {x : Str} {u : Value} {pos : Pos} {Q : Value → Shared → Prop} (I : Inv X pins σ H s) (hg : Gl X x) (hm : X.mg x = none) (hv : bootBuiltins x = some u) (h : Q u s)
    (hn : x ≠ "__name__" := by decide) (hd : (x == ("__debug__" : Str)) = false := by decide) : wpAny (model X.prog X.w) X.A (eval (.Name x pos) X.env) Q E s := by
  obtain ⟨mb, h1, h2⟩ := I.mod.blt
  exact Calls.Name_function_global I.ok.kind hg (Calls.loadGlobal_builtin (by rw [I.ok.glob]; exact I.mod.glob.keeps I.bk) hm (by rw [I.ok.blt]; exact h1.keeps I.bk) ((h2 x hn).trans hv) h) hd
/-- a module's constant, a class, a function, as a value -/
theorem pe_glob {x : Str} {v : V} {u : Value} {pos : Pos} (hg : Gl X x) (hm : X.mg x = some u) (r : RelV v u) (hd : (x == ("__debug__" : Str)) = false := by decide) : PE X (.Name x pos) (tC v) :=
  fun _ _ _ H _ I h => ld_glob I hg hm ⟨v, H, I, r, h⟩ hd
/-! ### arithmetic -/
/-- two ints -/
def t2I (ta tb : TE) (k : Int → Int → Hp → Prop) : St → Hp → Prop := fun σ H => ta σ H fun x H1 => tb σ H1 fun y H2 => ∃ i j, x = .int i ∧ y = .int j ∧ k i j H2
def tAdd (ta tb : TE) : TE := fun σ H Q => t2I ta tb (fun i j H2 => Q (.int (i + j)) H2) σ H
def tSub (ta tb : TE) : TE := fun σ H Q => t2I ta tb (fun i j H2 => Q (.int (i - j)) H2) σ H
/-- the left factor below 2^64 -/
def tMul (ta tb : TE) : TE := fun σ H Q => t2I ta tb (fun i j H2 => (-(2 ^ 64) < i ∧ i < 2 ^ 64) ∧ Q (.int (i * j)) H2) σ H
variable {a b : Expr} {ta tb : TE} {pos : Pos}
/-! ### comparisons -/
def PC (X : Cx) (op : CmpOp) (a b : Expr) (t : TE) : Prop :=
  ∀ (pins : List (Addr × Obj)) (s : Shared) (σ : St) (H : Hp) (Q : VK), Inv X pins σ H s → t σ H Q →
    wpAny (model X.prog X.w) X.A (eval a X.env) (fun v s₁ => wpAny (model X.prog X.w) X.A (eval b X.env) (fun u s₂ => wpAny (model X.prog X.w) X.A (compareOp op v u) (EP X pins σ Q) X.xe s₂) X.xe s₁) X.xe s
theorem nobehind (b : Expr) {op : CmpOp} (h : op ≠ .In) (h2 : op ≠ .NotIn) : behindInMarks op b = false := by
  have e1 : (op == CmpOp.In) = false := by cases op <;> first | rfl | exact absurd rfl h
  have e2 : (op == CmpOp.NotIn) = false := by cases op <;> first | rfl | exact absurd rfl h2
  cases b <;> simp [behindInMarks, e1, e2]
def tCmp (p : Int → Int → Bool) (ta tb : TE) : TE := fun σ H Q => t2I ta tb (fun i j H2 => Q (.bl (p i j)) H2) σ H
abbrev tLt : TE → TE → TE := tCmp fun i j => decide (i < j)
abbrev tLe : TE → TE → TE := tCmp fun i j => decide (i ≤ j)
abbrev tGt : TE → TE → TE := tCmp fun i j => decide (j < i)
abbrev tGe : TE → TE → TE := tCmp fun i j => decide (j ≤ i)
abbrev tEqI : TE → TE → TE := tCmp fun i j => decide (i = j)
abbrev tNeI : TE → TE → TE := tCmp fun i j => !decide (i = j)
/-- a comparison of two ints, by its rule -/
theorem pc_int {op : CmpOp} {p : Int → Int → Bool} (ha : PE X a ta) (hb : PE X b tb)
    (rule : ∀ (i j : Int) (t u : Tok) (Q : Value → Shared → Prop) (s : Shared), Q (.bool (p i j)) s → wpAny (model X.prog X.w) X.A (compareOp op (.int i t) (.int j u)) Q X.xe s) : PC X op a b (tCmp p ta tb) := by
  intro pins s σ H Q I h
  refine bin ha hb I h fun v u s2 x y H2 I2 rx ry q => ?_
  obtain ⟨i, j, rfl, rfl, q⟩ := q
  obtain ⟨t, rfl⟩ := rx
  obtain ⟨t', rfl⟩ := ry
  exact rule i j t t' _ s2 ⟨.bl _, H2, I2, rfl, q⟩
theorem pc_neI (ha : PE X a ta) (hb : PE X b tb) : PC X .NotEq a b (tNeI ta tb) := pc_int ha hb fun _ _ _ _ _ _ h => ne_int (by rw [bne, Bool.beq_eq_decide_eq]; exact h)
/-- is None -/
def tIsN (ta : TE) : TE := fun σ H Q => ta σ H fun x H1 => Q (.bl (decide (x = .non))) H1
def tNotN (ta : TE) : TE := fun σ H Q => ta σ H fun x H1 => Q (.bl (!decide (x = .non))) H1
/-- a comparison as a value, as a test -/
def tB (t : TE) : TT := fun σ H Q => t σ H fun x H1 => ∃ c, x = .bl c ∧ Q c H1
theorem pt_cmp {op : CmpOp} {t : TE} (h : PC X op a b t) (h1 : behindInMarks op b = false := by first | exact nobehind _ (by decide) (by decide) | rfl) : PT X (.Compare a [op] [b] pos) (tB t) := by
  intro pins s σ H Q I hw
  refine wpAny_isTrue_Compare1 (thn (h pins s σ H _ I hw) fun v s1 h1 => thn h1 fun u s2 h2 => thn h2 fun c s3 ⟨x, H1, I1, r1, q1⟩ => ?_) h1
  obtain ⟨d, rfl, q⟩ := q1
  cases r1
  exact wpAny_truthy_bool ⟨H1, I1, q⟩
/-- an expression whose value is a bool, as a test -/
theorem pt_val {e : Expr} {t : TE} (h : PE X e t) (he : ∀ whole, isTrue e X.env whole = (do let v ← whole; standAt e.pos; holding [v] (truthy v)) := by intro _; rfl) : PT X e (tB t) := by
  intro pins s σ H Q I hw
  refine isTrue_plain (thn (h pins s σ H _ I hw) fun v s1 ⟨x, H1, I1, r1, q1⟩ => ?_) (he _)
  obtain ⟨d, rfl, q⟩ := q1
  cases r1
  exact wpAny_truthy_bool ⟨H1, I1, q⟩

/-! ### and, or, not -/
variable {tA tB' : TT} {rest : List Expr}
def tAnd (t u : TT) : TT := fun σ H Q => t σ H fun c H1 => if c = true then u σ H1 Q else Q false H1
def tOr (t u : TT) : TT := fun σ H Q => t σ H fun c H1 => if c = true then Q true H1 else u σ H1 Q
def tNot (t : TT) : TT := fun σ H Q => t σ H fun c H1 => Q (!c) H1
theorem pw_and1 (ha : PT X a tA) : PW X (.BoolOp .And [a] pos) tA := by
  intro wh pins s σ H Q I h
  refine isTrue_and (thn (ha pins s σ H Q I h) fun c s1 e => ?_)
  cases c with
  | true => exact isTrue_and_nil e
  | false => exact e
theorem pw_or1 (ha : PT X a tA) : PW X (.BoolOp .Or [a] pos) tA := by
  intro wh pins s σ H Q I h
  refine isTrue_or (thn (ha pins s σ H Q I h) fun c s1 e => ?_)
  cases c with
  | false => exact isTrue_or_nil e
  | true => exact e
theorem pw_and (ha : PT X a tA) (hb : PW X (.BoolOp .And (b :: rest) pos) tB') : PW X (.BoolOp .And (a :: b :: rest) pos) (tAnd tA tB') := by
  intro wh pins s σ H Q I h
  refine isTrue_and (thn (ha pins s σ H _ I h) fun c s1 ⟨H1, I1, q1⟩ => ?_)
  cases c with
  | true => exact hb wh pins s1 σ H1 Q I1 q1
  | false => exact ⟨H1, I1, q1⟩
theorem pw_or (ha : PT X a tA) (hb : PW X (.BoolOp .Or (b :: rest) pos) tB') : PW X (.BoolOp .Or (a :: b :: rest) pos) (tOr tA tB') := by
  intro wh pins s σ H Q I h
  refine isTrue_or (thn (ha pins s σ H _ I h) fun c s1 ⟨H1, I1, q1⟩ => ?_)
  cases c with
  | true => exact ⟨H1, I1, q1⟩
  | false => exact hb wh pins s1 σ H1 Q I1 q1
theorem pt_not (ha : PT X a tA) : PT X (.UnaryOp .Not a pos) (tNot tA) := by
  intro pins s σ H Q I h
  exact isTrue_not (ha pins s σ H (fun c H1 => Q (!c) H1) I h)
/-- .. as values (bools) -/
def tAndV (ta tb : TE) : TE := fun σ H Q => ta σ H fun x H1 => ∃ c, x = .bl c ∧ if c = true then tb σ H1 Q else Q (.bl false) H1
def tOrV (ta tb : TE) : TE := fun σ H Q => ta σ H fun x H1 => ∃ c, x = .bl c ∧ if c = true then Q (.bl true) H1 else tb σ H1 Q
def tNotV (ta : TE) : TE := fun σ H Q => ta σ H fun x H1 => ∃ c, x = .bl c ∧ Q (.bl (!c)) H1
theorem pe_one {op} {t : TE} (h : PE X a t) : PE X (.BoolOp op [a] pos) t := fun pins s σ H Q I hw => BoolOp_one (h pins s σ H Q I hw)
theorem pe_and (ha : PE X a ta) (hb : PE X (.BoolOp .And (b :: rest) pos) tb) : PE X (.BoolOp .And (a :: b :: rest) pos) (tAndV ta tb) := by
  intro pins s σ H Q I h
  refine BoolOp_and (thn (ha pins s σ H _ I h) fun v s1 ⟨x, H1, I1, r1, q1⟩ => ?_)
  obtain ⟨c, rfl, q1⟩ := q1
  cases r1
  refine wpAny_truthy_bool ?_
  cases c with
  | true => exact hb pins s1 σ H1 Q I1 q1
  | false => exact ⟨.bl false, H1, I1, rfl, q1⟩
theorem pe_not (ha : PE X a ta) : PE X (.UnaryOp .Not a pos) (tNotV ta) := by
  intro pins s σ H Q I h
  refine UnaryOp_ (thn (ha pins s σ H _ I h) fun v s1 ⟨x, H1, I1, r1, q1⟩ => ?_)
  obtain ⟨c, rfl, q1⟩ := q1
  cases r1
  exact not_of (wpAny_truthy_bool ⟨.bl (!c), H1, I1, rfl, q1⟩)
/-- a if t else b -/
def tIf (t : TT) (ta tb : TE) : TE := fun σ H Q => t σ H fun c H1 => if c = true then ta σ H1 Q else tb σ H1 Q
theorem pe_ifExp {c : Expr} (hc : PT X c tA) (ha : PE X a ta) (hb : PE X b tb) : PE X (.IfExp c a b pos) (tIf tA ta tb) := by
  intro pins s σ H Q I h
  refine wpAny_IfExp (thn (hc pins s σ H _ I h) fun d s1 ⟨H1, I1, q1⟩ => ?_)
  cases d with
  | true => exact ha pins s1 σ H1 Q I1 q1
  | false => exact hb pins s1 σ H1 Q I1 q1
end
end L2

namespace L2
open PySem PySem.Spec PyProof.Rows

/-! ### a list, a tuple that is read: tracked, frozen, or an object of the module -/
def SqL (K : PySem.W.Frag) (H : Hp) (a : Addr) (xs : List V) : Prop :=
  Rd H a (.lst xs) ∨
    ∃ (o : Obj) (its : Array Value) (n : Nat), K.lookup a = some o ∧ o.cls = .type "list" ∧ o.dict = none ∧ o.data = .seq its n ∧ its.size ≤ sizeLine ∧ Vals xs its.toList
def SqT (K : PySem.W.Frag) (H : Hp) (a : Addr) (xs : List V) : Prop :=
  Rd H a (.tup xs) ∨
    ∃ (o : Obj) (its : Array Value) (n : Nat), K.lookup a = some o ∧ o.cls = .type "tuple" ∧ o.data = .seq its n ∧ its.size ≤ sizeLine ∧ Vals xs its.toList
def absV : Value → Option V
  | .none => some .non
  | .bool b => some (.bl b)
  | .int i _ => some (.int i)
  | .str x _ => some (.str x)
  | .bytes b _ => some (.byt b)
  | .float b _ => some (.flt b)
  | .ref a => some (.ref a)
  | .type n => some (.ty n)
  | _ => none
theorem RelV.abs {x : V} {u : Value} (r : RelV x u) : absV u = some x := by
  cases x with
  | non => cases r; rfl
  | bl _ => cases r; rfl
  | int _ => obtain ⟨t, rfl⟩ := r; rfl
  | str _ => obtain ⟨t, rfl⟩ := r; rfl
  | byt _ => obtain ⟨t, rfl⟩ := r; rfl
  | flt _ => obtain ⟨t, rfl⟩ := r; rfl
  | ref _ => cases r; rfl
  | ty _ => cases r; rfl
theorem RelV.inj {x y : V} {u : Value} (r : RelV x u) (q : RelV y u) : x = y := Option.some.inj (r.abs.symm.trans q.abs)
theorem Vals.inj : ∀ {xs ys : List V} {us : List Value}, Vals xs us → Vals ys us → xs = ys
  | _, _, _, .nil, .nil => rfl
  | _, _, _, .cons r t, .cons r' t' => by rw [r.inj r', Vals.inj t t']
section
variable {X : Cx} {pins : List (Addr × Obj)} {σ : St} {H : Hp} {s : Shared} {a : Addr} {xs ys : List V}
theorem SqL.of {K : PySem.W.Frag} (h : H a = some (.lst xs)) : SqL K H a xs := .inl (.inl h)
theorem SqT.of {K : PySem.W.Frag} (h : H a = some (.tup xs)) : SqT K H a xs := .inl (.inl h)
theorem Inv.list (I : Inv X pins σ H s) (h : SqL X.K H a xs) : ∃ its : List Value, Vals xs its ∧ PlainL s.heap a its.toArray ∧ xs.length ≤ sizeLine := by
  rcases h with h | ⟨o, its, n, hk, hc, hd, hs, hz, r⟩
  · obtain ⟨z, its, n, r, e⟩ := h.ok I.hok
    exact ⟨its, r, ⟨_, n, e, rfl, rfl, rfl⟩, z⟩
  · refine ⟨its.toList, r, ⟨o, n, I.kIn a o hk, hc, hd, by simpa using hs⟩, ?_⟩
    have e := r.length
    simp only [Array.length_toList] at e
    omega
theorem Inv.tuple (I : Inv X pins σ H s) (h : SqT X.K H a xs) : ∃ its : List Value, Vals xs its ∧ IsTup s.heap a its.toArray ∧ xs.length ≤ sizeLine := by
  rcases h with h | ⟨o, its, n, hk, hc, hs, hz, r⟩
  · obtain ⟨⟨z, _⟩, its, r, p⟩ := h.ok I.hok
    exact ⟨its, r, p, z⟩
  · refine ⟨its.toList, r, ⟨o, I.kIn a o hk, hc, n, by simpa using hs⟩, ?_⟩
    have e := r.length
    simp only [Array.length_toList] at e
    omega
theorem Inv.list_inj (I : Inv X pins σ H s) (h : SqL X.K H a xs) (h' : SqL X.K H a ys) : xs = ys := by
  obtain ⟨its, r, ⟨o, n, e, _, _, d⟩, _⟩ := I.list h
  obtain ⟨its', r', ⟨o', n', e', _, _, d'⟩, _⟩ := I.list h'
  rw [e] at e'; cases e'
  rw [d] at d'
  injection d' with d1 _
  have : its = its' := by simpa using congrArg Array.toList d1
  subst this
  exact r.inj r'
theorem Inv.tuple_inj (I : Inv X pins σ H s) (h : SqT X.K H a xs) (h' : SqT X.K H a ys) : xs = ys := by
  obtain ⟨its, r, ⟨o, e, _, n, d⟩, _⟩ := I.tuple h
  obtain ⟨its', r', ⟨o', e', _, n', d'⟩, _⟩ := I.tuple h'
  rw [e] at e'; cases e'
  rw [d] at d'
  injection d' with d1 _
  have : its = its' := by simpa using congrArg Array.toList d1
  subst this
  exact r.inj r'
end

/-! ### another wish about exceptions -/
abbrev Cx.wish (X : Cx) (E : Value → Shared → Prop) : Cx := { X with xe := E }
/-- no exception leaves -/
abbrev Cx.nox (X : Cx) : Cx := X.wish fun _ _ => False
theorem Cx.Ok.wish {X : Cx} (ok : X.Ok) (E : Value → Shared → Prop) : (X.wish E).Ok :=
  ⟨ok.mod, ok.kind, ok.glob, ok.blt, ok.above, ok.inj, ok.has, ok.cab, ok.hd, ok.frames, ok.stk, ok.exf, ok.bs, ok.bsz, ok.noex, ok.exfs, ok.funs, ok.frf⟩
theorem Cx.Ok.unwish {X : Cx} {E : Value → Shared → Prop} (ok : (X.wish E).Ok) : X.Ok :=
  ⟨ok.mod, ok.kind, ok.glob, ok.blt, ok.above, ok.inj, ok.has, ok.cab, ok.hd, ok.frames, ok.stk, ok.exf, ok.bs, ok.bsz, ok.noex, ok.exfs, ok.funs, ok.frf⟩
section
variable {X : Cx} {pins : List (Addr × Obj)} {σ : St} {H : Hp} {s : Shared} {E : Value → Shared → Prop}
theorem Inv.wish (I : Inv X pins σ H s) (E : Value → Shared → Prop) : Inv (X.wish E) pins σ H s := ⟨I.ok.wish E, I.os, I.bare, I.base, I.loc, I.cell, I.free, I.freeC, I.pin, I.hok, I.len⟩
theorem Inv.unwish (I : Inv (X.wish E) pins σ H s) : Inv X pins σ H s := ⟨I.ok.unwish, I.os, I.bare, I.base, I.loc, I.cell, I.free, I.freeC, I.pin, I.hok, I.len⟩
theorem SP.unwish {D : Ends} {f : Flow} {s' : Shared} (h : SP (X.wish E) pins D f s') : SP X pins D f s' := by
  cases f with
  | next => obtain ⟨σ', H', I, q⟩ := h; exact ⟨σ', H', I.unwish, q⟩
  | brk => obtain ⟨σ', H', I, q⟩ := h; exact ⟨σ', H', I.unwish, q⟩
  | cont => obtain ⟨σ', H', I, q⟩ := h; exact ⟨σ', H', I.unwish, q⟩
  | ret u => obtain ⟨v, σ', H', I, r, q⟩ := h; exact ⟨v, σ', H', I.unwish, r, q⟩
theorem PSs.nox {st : List Stmt} {t : TS} (h : PSs X.nox st t) : PSs X st t := fun pins s σ H D I hw =>
  wpAny_mono (h pins s σ H D (I.wish _) hw) (fun _ _ q => q.unwish) fun _ _ z => False.elim z
end

/-! ### blocks and small statements -/
section
variable {X : Cx} {st : Stmt} {rest : List Stmt} {t u : TS} {e : Expr} {te : TE} {pos : Pos}
def tNext : TS := fun D σ H => D.nx σ H
def tSeq (t u : TS) : TS := fun D σ H => t { D with nx := u D } σ H
theorem pss_nil : PSs X [] tNext := fun _ _ σ H _ I h => wpAny_execs_nil ⟨σ, H, I, h⟩
theorem pss_cons (h1 : PS X st t) (h2 : PSs X rest u) : PSs X (st :: rest) (tSeq t u) := by
  intro pins s σ H D I h
  refine wpAny_execs_cons (thn (h1 pins s σ H { D with nx := u D } I h) fun f s1 q => ?_)
  cases f with
  | next =>
    obtain ⟨σ', H', I', q⟩ := q
    exact h2 pins s1 σ' H' D I' q
  | ret v => exact q
  | brk => exact q
  | cont => exact q
theorem pss_one (h1 : PS X st t) : PSs X [st] t := by
  intro pins s σ H D I h
  refine wpAny_execs_cons (thn (h1 pins s σ H D I h) fun f s1 q => ?_)
  cases f with
  | next => exact wpAny_execs_nil q
  | ret v => exact q
  | brk => exact q
  | cont => exact q
def tBreak : TS := fun D σ H => D.bk σ H
def tCont : TS := fun D σ H => D.ct σ H
/-- in a def's body nothing is shown -/
theorem Inv.quiet {pins : List (Addr × Obj)} {σ : St} {H : Hp} {s : Shared} (I : Inv X pins σ H s) : interactive X.env = false := by simp [interactive, I.ok.kind]
/-- an expression whose value is dropped -/
def tDrop (te : TE) : TS := fun D σ H => te σ H fun _ H1 => D.nx σ H1
theorem ps_expr (he : PE X e te) (hs : swapsWith e none pos.line X.env = pure false := by rfl) : PS X (.Expr e pos) (tDrop te) := by
  intro pins s σ H D I h
  exact wpAny_Expr_any (thn (he pins s σ H _ I h) fun v s1 ⟨x, H1, I1, r1, q1⟩ => ⟨σ, H1, I1, q1⟩) I.quiet hs
def tRet (te : TE) : TS := fun D σ H => te σ H D.rt
theorem ps_ret (he : PE X e te) : PS X (.Return (some e) pos) (tRet te) := by
  intro pins s σ H D I h
  exact wpAny_Return_some (thn (he pins s σ H _ I h) fun v s1 ⟨x, H1, I1, r1, q1⟩ => ⟨x, σ, H1, I1, r1, q1⟩)
def tRetN : TS := fun D _ H => D.rt .non H
def tIfS (c : TT) (t u : TS) : TS := fun D σ H => c σ H fun b H1 => if b = true then t D σ H1 else u D σ H1
theorem ps_if {c : Expr} {a b : List Stmt} {tc : TT} (hc : PT X c tc) (ha : PSs X a t) (hb : PSs X b u) : PS X (.If c a b pos) (tIfS tc t u) := by
  intro pins s σ H D I h
  refine wpAny_If (thn (hc pins s σ H _ I h) fun d s1 ⟨H1, I1, q1⟩ => ?_)
  cases d with
  | true => exact ha pins s1 σ H1 D I1 q1
  | false => exact hb pins s1 σ H1 D I1 q1
/-- code that the proof never comes to -/
def tNever : TS := fun _ _ _ => False
end

/-! ### targets -/
abbrev TG := V → St → Hp → (St → Hp → Prop) → Prop
abbrev TGs := List V → St → Hp → (St → Hp → Prop) → Prop
def PG (X : Cx) (target : Expr) (t : TG) : Prop :=
  ∀ (pins : List (Addr × Obj)) (s : Shared) (σ : St) (H : Hp) (v : V) (u : Value) (Q : St → Hp → Prop), Inv X pins σ H s → RelV v u → t v σ H Q →
    wpAny (model X.prog X.w) X.A (assign target X.env u) (fun _ s' => ∃ σ' H', Inv X pins σ' H' s' ∧ Q σ' H') X.xe s
/-- several targets, one after another -/
def PGs (X : Cx) (ts : List Expr) (t : TGs) : Prop :=
  ∀ (pins : List (Addr × Obj)) (s : Shared) (σ : St) (H : Hp) (vs : List V) (us : List Value) (Q : St → Hp → Prop), Inv X pins σ H s → Vals vs us → t vs σ H Q →
    wpAny (model X.prog X.w) X.A (assignInOrder ((assignEach ts X.env).map (·.2)) us) (fun _ s' => ∃ σ' H', Inv X pins σ' H' s' ∧ Q σ' H') X.xe s
/-- o[i] = v, by values -/
abbrev TSet := V → V → V → Hp → (Hp → Prop) → Prop
def PSet (X : Cx) (t : TSet) : Prop :=
  ∀ (pins : List (Addr × Obj)) (s : Shared) (σ : St) (H : Hp) (o i v : V) (ov iv u : Value) (Q : Hp → Prop), Inv X pins σ H s → RelV o ov → RelV i iv → RelV v u → t o i v H Q →
    wpAny (model X.prog X.w) X.A (setItem ov iv u) (fun _ s' => ∃ H', Inv X pins σ H' s' ∧ Q H') X.xe s
/-- a op= b, by values -/
abbrev TIp := V → V → Hp → VK → Prop
def PIp (X : Cx) (op : Operator) (t : TIp) : Prop :=
  ∀ (pins : List (Addr × Obj)) (s : Shared) (σ : St) (H : Hp) (x y : V) (v u : Value) (Q : VK), Inv X pins σ H s → RelV x v → RelV y u → t x y H Q →
    wpAny (model X.prog X.w) X.A (inplaceOp op v u) (EP X pins σ Q) X.xe s
section
variable {X : Cx} {pos : Pos}
def gName (i : Nat) : TG := fun v σ H Q => Q (σ.set i (some v)) H
theorem pg_name {i : Nat} {x : Str} (hN : X.N.Nodup) (hi : X.N[i]? = some x) (hx : Loc X.env.scope x) (hf : X.fn x = true ∨ X.env.scope.names.lookup x = some .local := by first | exact .inl rfl | exact .inr rfl | assumption) : PG X (.Name x pos) (gName i) := by
  intro pins s σ H v u Q I r h
  exact wpAny_assign_Name (store_ok I hN hi hx r (fun s' I' => ⟨_, H, I', h⟩) hf)
def gNil : TGs := fun vs σ H Q => vs = [] ∧ Q σ H
def gCons (t : TG) (u : TGs) : TGs := fun vs σ H Q => ∃ v r, vs = v :: r ∧ t v σ H fun σ' H' => u r σ' H' Q
/-- (a, b, ..) = a tuple of that length -/
def gTup (K : PySem.W.Frag) (n : Nat) (t : TGs) : TG := fun v σ H Q => ∃ a xs, v = .ref a ∧ SqT K H a xs ∧ xs.length = n ∧ t xs σ H Q
/-- o[i] = .. -/
def gSub (to ti : TE) (t : TSet) : TG := fun v σ H Q => to σ H fun o H1 => ti σ H1 fun i H2 => t o i v H2 fun H3 => Q σ H3
theorem pg_sub {o i : Expr} {to ti : TE} {t : TSet} (ho : PE X o to) (hi : PE X i ti) (hs : PSet X t)
    (ha : ∀ v, assign (.Subscript o i pos) X.env v = (do
      let ov ← holding [v] (eval o X.env)
      let iv ← holding [v, ov] (eval i X.env)
      standAt pos
      holding [v, ov, iv] (setItem ov iv v)
      release [v, ov, iv] []) := by intro _; rfl) : PG X (.Subscript o i pos) (gSub to ti t) := by
  intro pins s σ H v u Q I r h
  rw [ha]
  refine wpAny_bind (wpAny_holding (thn (ho pins s σ H _ I h) fun ov s1 ⟨x, H1, I1, r1, q1⟩ => ?_))
  refine wpAny_bind (wpAny_holding (thn (hi pins s1 σ H1 _ I1 q1) fun iv s2 ⟨y, H2, I2, r2, q2⟩ => ?_))
  refine wpAny_bind (wpAny_standAt (wpAny_bind (wpAny_holding (thn (hs pins s2 σ H2 x y v ov iv u _ I2 r1 r2 r q2) fun _ s3 ⟨H3, I3, q3⟩ => ?_))))
  exact wpAny_release ⟨σ, H3, I3, q3⟩
/-- target = value -/
def tAsg (te : TE) (g : TG) : TS := fun D σ H => te σ H fun x H1 => g x σ H1 D.nx
theorem ps_asg {tg e : Expr} {te : TE} {g : TG} (he : PE X e te) (hg : PG X tg g) (hs : swapsWithSole [tg] e pos.line X.env = pure false := by rfl) (hw : swappedStores [tg] e X.env = pure none := by rfl)
    (h1 : (assignEach [tg] X.env).map (·.2) = [assign tg X.env] := by rfl) : PS X (.Assign [tg] e pos) (tAsg te g) := by
  intro pins s σ H D I h
  refine wpAny_Assign_stores (thn (he pins s σ H _ I h) fun v s1 ⟨x, H1, I1, r1, q1⟩ => ?_) hs hw
  rw [h1]
  exact thn (hg pins s1 σ H1 x v _ I1 r1 q1) fun _ s2 q => q
/-- name = value -/
theorem ps_set {i : Nat} {x : Str} {e : Expr} {te : TE} {pos' : Pos} (hN : X.N.Nodup) (hi : X.N[i]? = some x) (hx : Loc X.env.scope x) (he : PE X e te) (hs : swapsWith e (some (.Name x pos')) pos.line X.env = pure false := by rfl) (hf : X.fn x = true ∨ X.env.scope.names.lookup x = some .local := by first | exact .inl rfl | exact .inr rfl | assumption) :
    PS X (.Assign [.Name x pos'] e pos) (tAsg te (gName i)) := by
  intro pins s σ H D I h
  refine wpAny_Assign_Name (thn (he pins s σ H _ I h) fun v s1 ⟨y, H1, I1, r1, q1⟩ => ?_) hs
  exact store_ok I1 hN hi hx r1 (fun s2 I2 => ⟨_, H1, I2, q1⟩) hf
/-- a, b = x, y with plain local names: stored from the right; the pair itself is not tracked (the opening rows as in PyProof/Rows/TupAssign.lean:23) -/
def tPar (i j : Nat) (ta : TA) : TS := fun D σ H => ta σ H fun vs H1 => ∃ v w, vs = [v, w] ∧ D.nx ((σ.set i (some v)).set j (some w)) H1
/-- name op= e -/
def tAug (i : Nat) (te : TE) (ti : TIp) : TS := fun D σ H => ∃ x, σ[i]? = some (some x) ∧ te σ H fun y H1 => ti x y H1 fun z H2 => D.nx (σ.set i (some z)) H2
/-- o[i] op= e -/
def tAugS (to ti te : TE) (tget : V → V → Hp → VK → Prop) (tip : TIp) (tset : TSet) : TS := fun D σ H => to σ H fun o H1 => ti σ H1 fun i H2 => tget o i H2 fun x H3 => te σ H3 fun y H4 => tip x y H4 fun z H5 => tset o i z H5 fun H6 => D.nx σ H6
/-- o[i], by values -/
def PGet (X : Cx) (t : V → V → Hp → VK → Prop) : Prop :=
  ∀ (pins : List (Addr × Obj)) (s : Shared) (σ : St) (H : Hp) (o i : V) (ov iv : Value) (Q : VK), Inv X pins σ H s → RelV o ov → RelV i iv → t o i H Q →
    wpAny (model X.prog X.w) X.A (getItem ov iv) (EP X pins σ Q) X.xe s
/-- ints -/
def ipI (f : Int → Int → Int) : TIp := fun x y H Q => ∃ i j, x = .int i ∧ y = .int j ∧ Q (.int (f i j)) H
end

/-! ### while -/
section
variable {X : Cx} {pos : Pos}
/-- the invariant W with its measure -/
def tWhile (c : TT) (tb : TS) : TS := fun D σ H => ∃ W : Nat → St → Hp → Prop, (∃ m, W m σ H) ∧ ∀ m σ H, W m σ H →
  c σ H fun b H1 => if b = true then ∃ N : St → Hp → Prop, (∀ σ' H', N σ' H' → ∃ m', m' < m ∧ W m' σ' H') ∧ tb { D with nx := N, ct := N, bk := D.nx } σ H1 else D.nx σ H1
theorem ps_while {c : Expr} {body : List Stmt} {tc : TT} {tb : TS} (hp : PassesOwn (model X.prog X.w) X.A X.env X.xe) (hc : PT X c tc) (hb : PSs X body tb) : PS X (.While c body [] pos) (tWhile tc tb) := by
  intro pins s σ H D I h
  obtain ⟨W, ⟨m0, w0⟩, turn⟩ := h
  refine wpAny_While (codeAny_whileLoop (fun n s' => ∃ σ' H', Inv X pins σ' H' s' ∧ W n σ' H') ?_ m0 ⟨σ, H, I, w0⟩)
  rintro n s1 ⟨σ1, H1, I1, w1⟩
  refine wpAny_passesOwn hp (thn (hc pins s1 σ1 H1 _ I1 (turn n σ1 H1 w1)) fun b s2 ⟨H2, I2, q2⟩ => ?_)
  cases b with
  | true =>
    obtain ⟨N, hN, q2⟩ := q2
    rw [if_pos rfl]
    refine wpAny_passesOwn hp (thn (hb pins s2 σ1 H2 _ I2 q2) fun f s3 q3 => ?_)
    cases f with
    | next =>
      obtain ⟨σ3, H3, I3, n3⟩ := q3
      obtain ⟨m', hm, w3⟩ := hN σ3 H3 n3
      exact ⟨m', hm, σ3, H3, I3, w3⟩
    | cont =>
      obtain ⟨σ3, H3, I3, n3⟩ := q3
      obtain ⟨m', hm, w3⟩ := hN σ3 H3 n3
      exact ⟨m', hm, σ3, H3, I3, w3⟩
    | brk => exact q3
    | ret v => exact q3
  | false =>
    rw [if_neg Bool.false_ne_true]
    exact wpAny_execs_nil ⟨σ1, H2, I2, q2⟩
end

/-! ### what a loop or a comprehension walks -/
/-- at turn i: it yields x (the heap may grow), or it stops -/
structure It where
  go : Nat → Hp → Prop
  yld : Nat → Hp → V → Hp → Prop
  stop : Nat → Hp → Prop
/-- the iterator's own objects may turn: they are not the frame's, not pinned, younger than the entry (or a comprehension's own) -/
def FpOk (X : Cx) (pins : List (Addr × Obj)) (H : Hp) (b : Addr) : Prop :=
  H b = none ∧ b ≠ X.env.locals ∧ b ∉ X.fs ∧ (b ∈ X.ex ∨ X.s₀.heap.objs.size ≤ b) ∧ (∀ x c, X.env.cells.lookup x = some c → c ≠ b) ∧ ∀ p ∈ X.pn ++ pins, p.1 ≠ b
theorem Inv.fpOk {X : Cx} {pins : List (Addr × Obj)} {σ : St} {H H' : Hp} {s : Shared} {b : Addr} (I : Inv X pins σ H s) (hb : s.heap.objs.size ≤ b) (hn : H' b = none) : FpOk X pins H' b := by
  refine ⟨hn, Nat.ne_of_gt (Nat.lt_of_lt_of_le I.lt hb), I.nofs hb, .inr (Nat.le_trans I.sz hb), fun x c e z => ?_, fun p hp z => ?_⟩
  · obtain ⟨v, q⟩ := I.cell x c e
    exact absurd (Nat.lt_of_lt_of_le q.lt (by rw [z]; exact hb)) (Nat.lt_irrefl _)
  · exact absurd (Nat.lt_of_lt_of_le (Heap.lt_size (I.pin p hp).1) (by rw [z]; exact hb)) (Nat.lt_irrefl _)
structure Turn (P : Program) (w : World) (K : PySem.W.Frag) (tg : Expr) (J : It) (fp : List Addr) (it : Addr) (tn : Nat → Heap → Prop) : Prop where
  mem : it ∈ fp
  obj : ∀ i h, tn i h → ∀ b ∈ fp, ∃ o, h.get? b = some o ∧ ∀ v, o.data ≠ .cell v
  keep : ∀ i h h', tn i h → (∀ b ∈ fp, ∀ o, h.get? b = some o → h'.get? b = some o) → tn i h'
  item : ∀ (X : Cx), X.prog = P → X.w = w → X.K = K → X.calm = true → ∀ (i : Nat) (pins : List (Addr × Obj)) (s : Shared) (σ : St) (H : Hp) (E : Value → Shared → Prop), Inv X pins σ H s → (∀ b ∈ fp, FpOk X pins H b) → tn i s.heap → J.go i H →
    wpAny (model P w) X.A (pyNext (.ref it)) (fun r s1 => ∃ u, r = some u ∧
      wpAny (model P w) X.A (letOwnedTupleGo tg (.ref it) u) (fun _ s2 => ∃ x H', Inv X pins σ H' s2 ∧ RelV x u ∧ J.yld i H x H' ∧ tn (i + 1) s2.heap ∧ ∀ b ∈ fp, H' b = none) E s1) E s
  done : ∀ (X : Cx), X.prog = P → X.w = w → X.K = K → X.calm = true → ∀ (i : Nat) (pins : List (Addr × Obj)) (s : Shared) (σ : St) (H : Hp) (E : Value → Shared → Prop), Inv X pins σ H s → (∀ b ∈ fp, FpOk X pins H b) → tn i s.heap → J.stop i H →
    wpAny (model P w) X.A (pyNext (.ref it)) (fun r s1 => r = none ∧ Inv X pins σ H s1) E s
  self : ∀ (A : Around) (i : Nat) (s : Shared) (Q : Value → Shared → Prop) (E : Value → Shared → Prop), tn i s.heap → Q (.ref it) s → wpAny (model P w) A (pyIter (.ref it)) Q E s
abbrev TI := St → Hp → (It → Hp → Prop) → Prop
/-- an iterator has come -/
def PIE (X : Cx) (pins : List (Addr × Obj)) (σ : St) (tg : Expr) (R : It → Hp → Prop) (itv : Value) (s2 : Shared) : Prop :=
  ∃ (it : Addr) (fp : List Addr) (tn : Nat → Heap → Prop) (J : It) (H' : Hp), itv = .ref it ∧ Inv X pins σ H' s2 ∧ Turn X.prog X.w X.K tg J fp it tn ∧ tn 0 s2.heap ∧ (∀ b ∈ fp, FpOk X pins H' b) ∧ R J H'
def PI (X : Cx) (tg iter : Expr) (wi : TI) : Prop :=
  ∀ (pins : List (Addr × Obj)) (s : Shared) (σ : St) (H : Hp) (R : It → Hp → Prop), Inv X pins σ H s → wi σ H R →
    wpAny (model X.prog X.w) X.A (eval iter X.env) (fun v s1 => wpAny (model X.prog X.w) X.A (pyIter v) (PIE X pins σ tg R) X.xe s1) X.xe s

/-- the step ahead of the store is nothing for an iterator that keeps no tuple -/
theorem go_of {M : Model} {A : Around} {E : Value → Shared → Prop} {s : Shared} {tg : Expr} {it : Addr} {u : Value} {o : Obj} {n : String} {vs : Array Value} {Q : Unit → Shared → Prop} (ho : s.heap.get? it = some o) (hc : o.cls = .type n) (hd : o.data = .fields vs)
    (hn : ["enumerate", "zip", "dict_itemiterator", "dict_reverseitemiterator", "odict_iterator", "itertools.zip_longest", "itertools.pairwise"].contains n = false) (hQ : Q () s) : wpAny M A (letOwnedTupleGo tg (.ref it) u) Q E s := by
  unfold letOwnedTupleGo
  cases tg <;> first
    | exact wpAny_pure hQ
    | (cases u <;> first
        | exact wpAny_pure hQ
        | (refine wpAny_bind (wpAny_load ho ?_)
           rw [hc, hd]
           show wpAny M A (if (["enumerate", "zip", "dict_itemiterator", "dict_reverseitemiterator", "odict_iterator", "itertools.zip_longest", "itertools.pairwise"].contains n && vs[0]? == some (rawInt _)) = true then _ else _) Q E s
           rw [if_neg (by intro h; rw [hn, Bool.false_and] at h; cases h)]
           exact wpAny_pure hQ))

/-- the list at a, as it stands at each turn (a loop may append to it) -/
def Itl (K : PySem.W.Frag) (a : Addr) : It :=
  ⟨fun i H => ∃ xs x, SqL K H a xs ∧ xs[i]? = some x, fun i H x H' => H' = H ∧ ∀ xs, SqL K H a xs → xs[i]? = some x, fun i H => ∃ xs, SqL K H a xs ∧ xs.length ≤ i⟩
def Itt (K : PySem.W.Frag) (a : Addr) : It :=
  ⟨fun i H => ∃ xs x, SqT K H a xs ∧ xs[i]? = some x, fun i H x H' => H' = H ∧ ∀ xs, SqT K H a xs → xs[i]? = some x, fun i H => ∃ xs, SqT K H a xs ∧ xs.length ≤ i⟩
/-- lo, lo + 1, .. (n of them) -/
def Itr (lo : Int) (n : Nat) : It := ⟨fun i _ => i < n, fun i H x H' => H' = H ∧ x = .int (lo + i), fun i _ => n ≤ i⟩
theorem turn_list {P : Program} {w : World} {K : PySem.W.Frag} {tg : Expr} (a it : Addr) : Turn P w K tg (Itl K a) [it] it (fun i h => h.IsListIter it a i) where
  mem := by simp
  obj := fun i h st b hb => by
    have e : b = it := by simpa using hb
    subst e
    obtain ⟨o, e, c, d⟩ := st
    exact ⟨o, e, fun v z => by rw [d] at z; cases z⟩
  keep := fun i h h' st k => st.at fun o e => k it (by simp) o e
  item := by
    intro X hP hw hK hc i pins s σ H E I hf st hg
    subst hP hw hK
    obtain ⟨xs, x, hq, hx⟩ := hg
    obtain ⟨its, rv, p, hz⟩ := I.list hq
    obtain ⟨u, hu, ru⟩ := rv.get hx
    obtain ⟨f0, f1, f2, f3, f4, f5⟩ := hf it (by simp)
    refine wpAny_pyNext_list_item st p.isList (x := u) (by simpa using hu) fun h' st' sb => ?_
    have I1 : Inv X pins σ H { s with heap := h' } := I.turned (t' := s.toks) (fun b o hb e => (sb.2 b hb).trans e) f0 f1 f3 f4 f5
    obtain ⟨o, e, c, d⟩ := id st'
    exact ⟨u, rfl, go_of (s := { s with heap := h' }) e c d (by decide) ⟨x, H, I1, ru, ⟨rfl, fun ys hy => by rw [I.list_inj hy hq]; exact hx⟩, st', fun b hb => (hf b hb).1⟩⟩
  done := by
    intro X hP hw hK hc i pins s σ H E I hf st hg
    subst hP hw hK
    obtain ⟨xs, hq, hx⟩ := hg
    obtain ⟨its, rv, p, hz⟩ := I.list hq
    obtain ⟨f0, f1, f2, f3, f4, f5⟩ := hf it (by simp)
    have hl := rv.length
    exact wpAny_pyNext_list_end (I.ok.hd hc) st p.isList (by simp; omega) fun h' eb => ⟨rfl, I.turned (t' := s.toks) (fun b o hb e => eb b o hb e) f0 f1 f3 f4 f5⟩
  self := fun _ _ _ _ _ st h => wpAny_pyIter_listiter st h
theorem turn_tuple {P : Program} {w : World} {K : PySem.W.Frag} {tg : Expr} (a it : Addr) : Turn P w K tg (Itt K a) [it] it (fun i h => h.IsTupleIter it a i) where
  mem := by simp
  obj := fun i h st b hb => by
    have e : b = it := by simpa using hb
    subst e
    obtain ⟨o, e, c, d⟩ := st
    exact ⟨o, e, fun v z => by rw [d] at z; cases z⟩
  keep := fun i h h' st k => st.at fun o e => k it (by simp) o e
  item := by
    intro X hP hw hK hc i pins s σ H E I hf st hg
    subst hP hw hK
    obtain ⟨xs, x, hq, hx⟩ := hg
    obtain ⟨its, rv, p, hz⟩ := I.tuple hq
    obtain ⟨u, hu, ru⟩ := rv.get hx
    obtain ⟨f0, f1, f2, f3, f4, f5⟩ := hf it (by simp)
    refine wpAny_pyNext_tuple_item st (show s.heap.IsTuple a its.toArray from p) (x := u) (by simpa using hu) fun h' st' sb => ?_
    have I1 : Inv X pins σ H { s with heap := h' } := I.turned (t' := s.toks) (fun b o hb e => (sb.2 b hb).trans e) f0 f1 f3 f4 f5
    obtain ⟨o, e, c, d⟩ := id st'
    exact ⟨u, rfl, go_of (s := { s with heap := h' }) e c d (by decide) ⟨x, H, I1, ru, ⟨rfl, fun ys hy => by rw [I.tuple_inj hy hq]; exact hx⟩, st', fun b hb => (hf b hb).1⟩⟩
  done := by
    intro X hP hw hK hc i pins s σ H E I hf st hg
    subst hP hw hK
    obtain ⟨xs, hq, hx⟩ := hg
    obtain ⟨its, rv, p, hz⟩ := I.tuple hq
    obtain ⟨f0, f1, f2, f3, f4, f5⟩ := hf it (by simp)
    have hl := rv.length
    exact wpAny_pyNext_tuple_end (I.ok.hd hc) st (show s.heap.IsTuple a its.toArray from p) (by simp; omega) fun h' eb => ⟨rfl, I.turned (t' := s.toks) (fun b o hb e => eb b o hb e) f0 f1 f3 f4 f5⟩
  self := fun _ _ _ _ _ st h => wpAny_pyIter_tupleiter st h
theorem turn_range {P : Program} {w : World} {K : PySem.W.Frag} {tg : Expr} (it : Addr) (lo : Int) (n : Nat) : Turn P w K tg (Itr lo n) [it] it (fun i h => IsRangeIter h it (lo + (i : Nat) * 1) ((n : Int) - (i : Nat)) 1) where
  mem := by simp
  obj := fun i h st b hb => by
    have e : b = it := by simpa using hb
    subst e
    exact ⟨_, st, fun v z => by
      have z' : Data.fields _ = Data.cell v := z
      cases z'⟩
  keep := fun i h h' st k => k it (by simp) _ st
  item := by
    intro X hP hw hK hc i pins s σ H E I hf st hg
    subst hP hw hK
    obtain ⟨f0, f1, f2, f3, f4, f5⟩ := hf it (by simp)
    have W := Walks.range (prog := X.prog) (w := X.w) (I.ok.hd hc) it lo 1 n
    refine W.item i s _ _ hg st fun v h' tk hv st' kk => ?_
    obtain ⟨t, rfl⟩ := hv
    have I1 : Inv X pins σ H { s with heap := h', toks := tk } := I.turned (fun b o hb e => kk b o (by simpa using hb) e) f0 f1 f3 f4 f5
    refine ⟨_, rfl, go_of (s := { s with heap := h', toks := tk }) (n := "range_iterator") st' rfl rfl (by decide) ⟨.int (lo + i), H, I1, ⟨t, ?_⟩, ⟨rfl, rfl⟩, st', fun b hb => (hf b hb).1⟩⟩
    rw [Int.mul_one]
  done := by
    intro X hP hw hK hc i pins s σ H E I hf st hg
    subst hP hw hK
    obtain ⟨f0, f1, f2, f3, f4, f5⟩ := hf it (by simp)
    exact wpAny_pyNext_range_end (I.ok.hd hc) st (by have : n ≤ i := hg; omega) fun h' eb => ⟨rfl, I.turned (t' := s.toks) (fun b o hb e => eb b o hb e) f0 f1 f3 f4 f5⟩
  self := fun _ _ _ _ _ st h => wpAny_pyIter_rangeiter st h
end L2

namespace L2
open PySem PySem.Spec PyProof.Rows
section
variable {X : Cx} {tg : Expr}
def iList (K : PySem.W.Frag) (tl : TE) : TI := fun σ H R => tl σ H fun x H1 => ∃ a, x = .ref a ∧ (∃ xs, SqL K H1 a xs) ∧ R (Itl K a) H1
def iTup (K : PySem.W.Frag) (tl : TE) : TI := fun σ H R => tl σ H fun x H1 => ∃ a, x = .ref a ∧ (∃ xs, SqT K H1 a xs) ∧ R (Itt K a) H1
theorem pi_list {l : Expr} {tl : TE} (hl : PE X l tl) : PI X tg l (iList X.K tl) := by
  intro pins s σ H R I h
  refine thn (hl pins s σ H _ I h) fun v s1 ⟨x, H1, I1, r1, q1⟩ => ?_
  obtain ⟨a, e, ⟨xs, hq⟩, q⟩ := q1
  subst e
  cases r1
  obtain ⟨its, rv, p, hz⟩ := I1.list hq
  refine wpAny_pyIter_list p.isList ?_
  refine ⟨s1.heap.objs.size, [s1.heap.objs.size], _, _, H1, rfl, I1.kept (t' := s1.toks) fun b o e => Heap.get?_push_of_some _ e, turn_list a _, ⟨_, Heap.get?_push_size _ rfl, rfl, rfl⟩, fun b hb => ?_, q⟩
  have e : b = s1.heap.objs.size := by simpa using hb
  subst e
  exact I1.fpOk (Nat.le_refl _) (I1.hok.fresh (Nat.le_refl _))
theorem pi_tup {l : Expr} {tl : TE} (hl : PE X l tl) : PI X tg l (iTup X.K tl) := by
  intro pins s σ H R I h
  refine thn (hl pins s σ H _ I h) fun v s1 ⟨x, H1, I1, r1, q1⟩ => ?_
  obtain ⟨a, e, ⟨xs, hq⟩, q⟩ := q1
  subst e
  cases r1
  obtain ⟨its, rv, p, hz⟩ := I1.tuple hq
  refine wpAny_pyIter_tuple (show s1.heap.IsTuple a its.toArray from p) ?_
  refine ⟨s1.heap.objs.size, [s1.heap.objs.size], _, _, H1, rfl, I1.kept (t' := s1.toks) fun b o e => Heap.get?_push_of_some _ e, turn_tuple a _, ⟨_, Heap.get?_push_size _ rfl, rfl, rfl⟩, fun b hb => ?_, q⟩
  have e : b = s1.heap.objs.size := by simpa using hb
  subst e
  exact I1.fpOk (Nat.le_refl _) (I1.hok.fresh (Nat.le_refl _))
/-- a range object just made, walked -/
theorem range_it {pins : List (Addr × Obj)} {σ : St} {H : Hp} {s : Shared} {R : It → Hp → Prop} {E : Value → Shared → Prop} {lo hi : Int} {t u v : Tok} {tk : Nat} (I : Inv X pins σ H s) (h1 : -(2 ^ 62) ≤ lo) (h2 : lo < 2 ^ 62) (h3 : -(2 ^ 62) ≤ hi) (h4 : hi < 2 ^ 62)
    (q : R (Itr lo (hi - lo).toNat) H) : wpAny (model X.prog X.w) X.A (pyIter (.ref s.heap.objs.size)) (PIE X pins σ tg R) E { s with heap := s.heap.push { cls := .type "range", data := .fields #[.int lo t, .int hi u, .int 1 v] }, toks := tk } := by
  refine wpAny_pyIter_range (IsRange.new ..) (small_one h1 h2 h3 h4) ?_
  have I1 : Inv X pins σ H { s with heap := s.heap.push { cls := .type "range", data := .fields #[.int lo t, .int hi u, .int 1 v] }, toks := tk } := I.kept fun b o e => Heap.get?_push_of_some _ e
  refine ⟨(s.heap.push { cls := .type "range", data := .fields #[.int lo t, .int hi u, .int 1 v] }).objs.size, [(s.heap.push { cls := .type "range", data := .fields #[.int lo t, .int hi u, .int 1 v] }).objs.size], _, _, H, rfl,
    I1.kept (t' := tk) fun b o e => Heap.get?_push_of_some _ e, turn_range _ lo (hi - lo).toNat, ?_, fun b hb => ?_, q⟩
  · have e1 : lo + ((0 : Nat) : Int) * 1 = lo := by simp
    have e2 : (((hi - lo).toNat : Nat) : Int) - ((0 : Nat) : Int) = Builtin.Range.rangeSize lo hi 1 := by rw [rangeSize_one]; split <;> omega
    show IsRangeIter _ _ (lo + ((0 : Nat) : Int) * 1) ((((hi - lo).toNat : Nat) : Int) - ((0 : Nat) : Int)) 1
    rw [e1, e2]
    exact Heap.get?_push_size _ rfl
  · have e : b = (s.heap.push { cls := .type "range", data := .fields #[.int lo t, .int hi u, .int 1 v] }).objs.size := by simpa using hb
    subst e
    exact I1.fpOk (Nat.le_refl _) (I1.hok.fresh (Nat.le_refl _))
def iRng1 (ta : TA) : TI := fun σ H R => ta σ H fun vs H1 => ∃ j : Int, vs = [.int j] ∧ -(2 ^ 62) ≤ j ∧ j < 2 ^ 62 ∧ R (Itr 0 j.toNat) H1
def iRng2 (ta : TA) : TI := fun σ H R => ta σ H fun vs H1 => ∃ i j : Int, vs = [.int i, .int j] ∧ (-(2 ^ 62) ≤ i ∧ i < 2 ^ 62 ∧ -(2 ^ 62) ≤ j ∧ j < 2 ^ 62) ∧ R (Itr i (j - i).toNat) H1
theorem pi_range1 {a : Expr} {ta : TA} {p pos : Pos} (hg : Gl X "range") (hm : X.mg "range" = none) (ha : PA X [a] ta) (hs : starEach [a] X.env = [(false, eval a X.env)] := by rfl) : PI X tg (.Call (.Name "range" p) [a] [] pos) (iRng1 ta) := by
  intro pins s σ H R I h
  refine Call_ (ld_blt I hg hm boot_range (PyProof.Rows.callWith_type1 (thn (ha pos pins s σ H _ I h) fun us s1 ⟨vs, H1, I1, r1, q1⟩ => ?_) hs rfl))
  obtain ⟨j, e, q1, q2, q⟩ := q1
  subst e
  cases r1 with
  | cons r rr =>
    cases rr
    obtain ⟨t, rfl⟩ := r
    exact call_range_1 (range_it I1 (by omega) (by omega) q1 q2 (by simpa using q))
theorem pi_range2 {a b : Expr} {ta : TA} {p pos : Pos} (hg : Gl X "range") (hm : X.mg "range" = none) (ha : PA X [a, b] ta) (hs : starEach [a, b] X.env = [(false, eval a X.env), (false, eval b X.env)] := by rfl) (hs2 : starEach [b] X.env = [(false, eval b X.env)] := by rfl) :
    PI X tg (.Call (.Name "range" p) [a, b] [] pos) (iRng2 ta) := by
  intro pins s σ H R I h
  refine Call_ (ld_blt I hg hm boot_range (PyProof.Rows.callWith_type1 (thn (ha pos pins s σ H _ I h) fun us s1 ⟨vs, H1, I1, r1, q1⟩ => ?_) (by rw [hs, hs2]) (by rw [hs2]; rfl)))
  obtain ⟨i, j, e, ⟨q1, q2, q3, q4⟩, q⟩ := q1
  subst e
  cases r1 with
  | cons r rr =>
    cases rr with
    | cons r' rr =>
      cases rr
      obtain ⟨t, rfl⟩ := r
      obtain ⟨t', rfl⟩ := r'
      exact call_range_2 (range_it I1 q1 q2 q3 q4 q)

/-! ### for -/
/-- W: the invariant by the turn and a measure; N: what the body is to reach -/
def tFor (wi : TI) (g : TG) (tb : TS) : TS := fun D σ H => wi σ H fun J H1 => ∃ W : Nat → Nat → St → Hp → Prop, (∃ m, W 0 m σ H1) ∧ ∀ i m σ H, W i m σ H →
  (J.stop i H ∧ D.nx σ H) ∨ (J.go i H ∧ ∃ N : St → Hp → Prop, (∀ σ' H', N σ' H' → ∃ m', m' < m ∧ W (i + 1) m' σ' H') ∧ ∀ x H', J.yld i H x H' → g x σ H' fun σ2 H2 => tb { D with nx := N, ct := N, bk := D.nx } σ2 H2)
/-- the records at fp as they stand -/
def pinsAt (fp : List Addr) (h : Heap) : List (Addr × Obj) := fp.filterMap fun b => (h.get? b).map fun o => (b, o)
theorem mem_pinsAt {fp : List Addr} {h : Heap} {b : Addr} {o : Obj} (hb : b ∈ fp) (e : h.get? b = some o) : (b, o) ∈ pinsAt fp h := List.mem_filterMap.mpr ⟨b, hb, by rw [e]; rfl⟩
theorem of_pinsAt {fp : List Addr} {h : Heap} {p : Addr × Obj} (hp : p ∈ pinsAt fp h) : p.1 ∈ fp ∧ h.get? p.1 = some p.2 := by
  obtain ⟨b, hb, e⟩ := List.mem_filterMap.mp hp
  cases q : h.get? b with
  | none => rw [q] at e; cases e
  | some o =>
    rw [q] at e
    have e' : (b, o) = p := Option.some.inj e
    subst e'
    exact ⟨hb, q⟩
theorem Inv.pinned {pins : List (Addr × Obj)} {σ : St} {H : Hp} {s : Shared} {fp : List Addr} (I : Inv X pins σ H s) (hf : ∀ b ∈ fp, FpOk X pins H b) (ho : ∀ b ∈ fp, ∃ o, s.heap.get? b = some o ∧ ∀ v, o.data ≠ .cell v) : Inv X (pins ++ pinsAt fp s.heap) σ H s :=
  I.pins_of fun p hp => (List.mem_append.mp hp).elim (fun z => I.pin p (List.mem_append_right _ z)) fun z => by
    obtain ⟨hb, e⟩ := of_pinsAt z
    obtain ⟨f0, f1, f2, _⟩ := hf p.1 hb
    obtain ⟨o, e', d⟩ := ho p.1 hb
    rw [e] at e'; cases e'
    exact ⟨e, f0, f1, f2, d⟩
theorem Inv.unpinned {pins pl : List (Addr × Obj)} {σ : St} {H : Hp} {s : Shared} (I : Inv X (pins ++ pl) σ H s) : Inv X pins σ H s := I.pins_of fun p hp => I.pin p (List.mem_append_right _ (List.mem_append_left _ hp))
theorem ps_for {iter : Expr} {body : List Stmt} {wi : TI} {g : TG} {tb : TS} {pos : Pos} (hp : PassesOwn (model X.prog X.w) X.A X.env X.xe) (hc : X.calm = true) (hi : PI X tg iter wi) (hg : PG X tg g) (hb : PSs X body tb)
    (hs : ∀ x, foldedSetIterable iter X.env x = pure x := by intro _; rfl) : PS X (.For tg iter body [] pos) (tFor wi g tb) := by
  intro pins s σ H D I h
  refine wpAny_For (thn (hi pins s σ H _ I h) fun v s1 h1 => thn h1 fun itv s2 h2 => ?_) hs
  obtain ⟨it, fp, tn, J, H2, e, I2, T, st2, f2, W, ⟨m0, w0⟩, turn⟩ := h2
  subst e
  -- what stays true of the iterator's objects through the loop
  have stat : ∀ {H' : Hp}, (∀ b ∈ fp, H' b = none) → ∀ b ∈ fp, FpOk X pins H' b := fun hn b hb => ⟨hn b hb, (f2 b hb).2⟩
  refine codeAny_forLoop_any (fun n s' => ∃ i σ' H', Inv X pins σ' H' s' ∧ tn i s'.heap ∧ (∀ b ∈ fp, H' b = none) ∧ W i n σ' H') ?_ m0 ⟨0, σ, H2, I2, st2, fun b hb => (f2 b hb).1, w0⟩
  rintro n s3 ⟨i, σ3, H3, I3, st3, fr3, w3⟩
  rcases turn i n σ3 H3 w3 with ⟨stop, qn⟩ | ⟨go, N, hN, step⟩
  · refine wpAny_passesOwn hp (thn (T.done X rfl rfl rfl hc i pins s3 σ3 H3 X.xe I3 (stat fr3) st3 stop) fun r s4 ⟨hr, I4⟩ => ?_)
    subst hr
    exact wpAny_execs_nil ⟨σ3, H3, I4, qn⟩
  · refine wpAny_passesOwn hp (thn (T.item X rfl rfl rfl hc i pins s3 σ3 H3 X.xe I3 (stat fr3) st3 go) fun r s4 ⟨u, hr, h4⟩ => ?_)
    subst hr
    refine wpAny_passesOwn hp (thn h4 fun _ s5 ⟨x, H5, I5, r5, y5, st5, fr5⟩ => ?_)
    have I5' := I5.pinned (stat fr5) (T.obj _ _ st5)
    refine wpAny_passesOwn hp (thn (hg _ s5 σ3 H5 x u _ I5' r5 (step x H5 y5)) fun _ s6 ⟨σ6, H6, I6, q6⟩ => ?_)
    refine wpAny_passesOwn hp (thn (hb _ s6 σ6 H6 _ I6 q6) fun f s7 q7 => ?_)
    have again : ∀ {σ7 : St} {H7 : Hp}, Inv X (pins ++ pinsAt fp s5.heap) σ7 H7 s7 → N σ7 H7 → ∃ m, m < n ∧ ∃ i σ' H', Inv X pins σ' H' s7 ∧ tn i s7.heap ∧ (∀ b ∈ fp, H' b = none) ∧ W i m σ' H' := fun {σ7 H7} I7 n7 => by
      obtain ⟨m', hm, w7⟩ := hN σ7 H7 n7
      refine ⟨m', hm, i + 1, σ7, H7, I7.unpinned, T.keep _ _ _ st5 fun b hb o e => (I7.pin (b, o) (List.mem_append_right _ (List.mem_append_right _ (mem_pinsAt hb e)))).1, fun b hb => ?_, w7⟩
      obtain ⟨o, e, d⟩ := T.obj _ _ st5 b hb
      exact (I7.pin (b, o) (List.mem_append_right _ (List.mem_append_right _ (mem_pinsAt hb e)))).2.1
    cases f with
    | next => obtain ⟨σ7, H7, I7, n7⟩ := q7; exact again I7 n7
    | cont => obtain ⟨σ7, H7, I7, n7⟩ := q7; exact again I7 n7
    | brk => obtain ⟨σ7, H7, I7, q7⟩ := q7; exact ⟨σ7, H7, I7.unpinned, q7⟩
    | ret v => obtain ⟨x7, σ7, H7, I7, r7, q7⟩ := q7; exact ⟨x7, σ7, H7, I7.unpinned, r7, q7⟩
end

/-! ### the forms one uses -/
/-- over a list that the body leaves as it is -/
theorem for_list {K : PySem.W.Frag} {a : Addr} {xs : List V} {g : TG} {tb : TS} {D : Ends} {σ : St} {H : Hp} (Pv : Nat → St → Hp → Prop) (h0 : Pv 0 σ H) (hl : ∀ i σ H, i ≤ xs.length → Pv i σ H → SqL K H a xs)
    (hs : ∀ i x σ H, xs[i]? = some x → Pv i σ H → g x σ H fun σ2 H2 => tb { D with nx := Pv (i + 1), ct := Pv (i + 1), bk := D.nx } σ2 H2) (hd : ∀ σ H, Pv xs.length σ H → D.nx σ H) :
    ∃ W : Nat → Nat → St → Hp → Prop, (∃ m, W 0 m σ H) ∧ ∀ i m σ H, W i m σ H →
      ((Itl K a).stop i H ∧ D.nx σ H) ∨ ((Itl K a).go i H ∧ ∃ N : St → Hp → Prop, (∀ σ' H', N σ' H' → ∃ m', m' < m ∧ W (i + 1) m' σ' H') ∧ ∀ x H', (Itl K a).yld i H x H' → g x σ H' fun σ2 H2 => tb { D with nx := N, ct := N, bk := D.nx } σ2 H2) := by
  refine ⟨fun i m σ H => m = xs.length - i ∧ i ≤ xs.length ∧ Pv i σ H, ⟨xs.length, by simp, Nat.zero_le _, h0⟩, ?_⟩
  rintro i m σ H ⟨rfl, hi, p⟩
  have q := hl i σ H hi p
  by_cases hlt : i < xs.length
  · refine .inr ⟨⟨xs, xs[i], q, by simp [hlt]⟩, Pv (i + 1), fun σ' H' p' => ⟨xs.length - (i + 1), by omega, rfl, hlt, p'⟩, fun x H' y => ?_⟩
    obtain ⟨e, y⟩ := y
    subst e
    exact hs i x σ _ (y xs q) p
  · have e : i = xs.length := by omega
    subst e
    exact .inl ⟨⟨xs, q, Nat.le_refl _⟩, hd σ H p⟩
theorem for_tup {K : PySem.W.Frag} {a : Addr} {xs : List V} {g : TG} {tb : TS} {D : Ends} {σ : St} {H : Hp} (Pv : Nat → St → Hp → Prop) (h0 : Pv 0 σ H) (hl : ∀ i σ H, i ≤ xs.length → Pv i σ H → SqT K H a xs)
    (hs : ∀ i x σ H, xs[i]? = some x → Pv i σ H → g x σ H fun σ2 H2 => tb { D with nx := Pv (i + 1), ct := Pv (i + 1), bk := D.nx } σ2 H2) (hd : ∀ σ H, Pv xs.length σ H → D.nx σ H) :
    ∃ W : Nat → Nat → St → Hp → Prop, (∃ m, W 0 m σ H) ∧ ∀ i m σ H, W i m σ H →
      ((Itt K a).stop i H ∧ D.nx σ H) ∨ ((Itt K a).go i H ∧ ∃ N : St → Hp → Prop, (∀ σ' H', N σ' H' → ∃ m', m' < m ∧ W (i + 1) m' σ' H') ∧ ∀ x H', (Itt K a).yld i H x H' → g x σ H' fun σ2 H2 => tb { D with nx := N, ct := N, bk := D.nx } σ2 H2) := by
  refine ⟨fun i m σ H => m = xs.length - i ∧ i ≤ xs.length ∧ Pv i σ H, ⟨xs.length, by simp, Nat.zero_le _, h0⟩, ?_⟩
  rintro i m σ H ⟨rfl, hi, p⟩
  have q := hl i σ H hi p
  by_cases hlt : i < xs.length
  · refine .inr ⟨⟨xs, xs[i], q, by simp [hlt]⟩, Pv (i + 1), fun σ' H' p' => ⟨xs.length - (i + 1), by omega, rfl, hlt, p'⟩, fun x H' y => ?_⟩
    obtain ⟨e, y⟩ := y
    subst e
    exact hs i x σ _ (y xs q) p
  · have e : i = xs.length := by omega
    subst e
    exact .inl ⟨⟨xs, q, Nat.le_refl _⟩, hd σ H p⟩
theorem for_range {lo : Int} {n : Nat} {g : TG} {tb : TS} {D : Ends} {σ : St} {H : Hp} (Pv : Nat → St → Hp → Prop) (h0 : Pv 0 σ H)
    (hs : ∀ i σ H, i < n → Pv i σ H → g (.int (lo + i)) σ H fun σ2 H2 => tb { D with nx := Pv (i + 1), ct := Pv (i + 1), bk := D.nx } σ2 H2) (hd : ∀ σ H, Pv n σ H → D.nx σ H) :
    ∃ W : Nat → Nat → St → Hp → Prop, (∃ m, W 0 m σ H) ∧ ∀ i m σ H, W i m σ H →
      ((Itr lo n).stop i H ∧ D.nx σ H) ∨ ((Itr lo n).go i H ∧ ∃ N : St → Hp → Prop, (∀ σ' H', N σ' H' → ∃ m', m' < m ∧ W (i + 1) m' σ' H') ∧ ∀ x H', (Itr lo n).yld i H x H' → g x σ H' fun σ2 H2 => tb { D with nx := N, ct := N, bk := D.nx } σ2 H2) := by
  refine ⟨fun i m σ H => m = n - i ∧ i ≤ n ∧ Pv i σ H, ⟨n, by simp, Nat.zero_le _, h0⟩, ?_⟩
  rintro i m σ H ⟨rfl, hi, p⟩
  by_cases hlt : i < n
  · refine .inr ⟨hlt, Pv (i + 1), fun σ' H' p' => ⟨n - (i + 1), by omega, rfl, hlt, p'⟩, fun x H' y => ?_⟩
    obtain ⟨e, y⟩ := y
    subst e y
    exact hs i σ _ hlt p
  · have e : i = n := by omega
    subst e
    exact .inl ⟨Nat.le_refl _, hd σ H p⟩
end L2

namespace L2
open PySem PySem.Spec PyProof.Rows

abbrev R2 := V → V → Hp → VK → Prop
/-- a two-place operation on values: f is binaryOp op, inplaceOp op or compareOp op -/
def OpR (X : Cx) (f : Value → Value → Sem Value) (r : R2) : Prop :=
  ∀ (pins : List (Addr × Obj)) (s : Shared) (σ : St) (H : Hp) (x y : V) (v u : Value) (Q : VK), Inv X pins σ H s → RelV x v → RelV y u → r x y H Q →
    wpAny (model X.prog X.w) X.A (f v u) (EP X pins σ Q) X.xe s
/-- a one-place operation -/
def UnR (X : Cx) (f : Value → Sem Value) (r : V → Hp → VK → Prop) : Prop :=
  ∀ (pins : List (Addr × Obj)) (s : Shared) (σ : St) (H : Hp) (x : V) (v : Value) (Q : VK), Inv X pins σ H s → RelV x v → r x H Q →
    wpAny (model X.prog X.w) X.A (f v) (EP X pins σ Q) X.xe s
/-- a call of a value that is known (a builtin, a type) with values -/
def CallR (X : Cx) (f : Value) (r : List V → Hp → VK → Prop) : Prop :=
  ∀ (pins : List (Addr × Obj)) (s : Shared) (σ : St) (H : Hp) (xs : List V) (us : List Value) (Q : VK), Inv X pins σ H s → Vals xs us → r xs H Q →
    wpAny (model X.prog X.w) X.A (call f us) (EP X pins σ Q) X.xe s
/-- a value's truth -/
def TruR (X : Cx) (r : V → Hp → (Bool → Hp → Prop) → Prop) : Prop :=
  ∀ (pins : List (Addr × Obj)) (s : Shared) (σ : St) (H : Hp) (x : V) (v : Value) (Q : Bool → Hp → Prop), Inv X pins σ H s → RelV x v → r x H Q →
    wpAny (model X.prog X.w) X.A (truthy v) (TP X pins σ Q) X.xe s

def tOp (r : R2) (ta tb : TE) : TE := fun σ H Q => ta σ H fun x H1 => tb σ H1 fun y H2 => r x y H2 Q
def tUn (r : V → Hp → VK → Prop) (ta : TE) : TE := fun σ H Q => ta σ H fun x H1 => r x H1 Q
/-- ints in, under C, and a value out -/
def rI (C : Int → Int → Prop) (g : Int → Int → V) : R2 := fun x y H Q => ∃ i j, x = .int i ∧ y = .int j ∧ C i j ∧ Q (g i j) H
def rI0 (g : Int → Int → V) : R2 := fun x y H Q => ∃ i j, x = .int i ∧ y = .int j ∧ Q (g i j) H
def rU (g : Int → V) : V → Hp → VK → Prop := fun x H Q => ∃ i, x = .int i ∧ Q (g i) H

section
variable {X : Cx} {a b c : Expr} {ta tb tc : TE} {pos : Pos}

theorem binT (ha : PE X a ta) (hb : PE X b tb) {pins : List (Addr × Obj)} {s : Shared} {σ : St} {H : Hp} {R : V → V → Hp → Prop} (I : Inv X pins σ H s)
    (h : ta σ H fun x H1 => tb σ H1 fun y H2 => R x y H2) {Q : Value → Shared → Prop} {f : Value → Value → Sem Value}
    (hf : ∀ v u s2 x y H2, Inv X pins σ H2 s2 → RelV x v → RelV y u → R x y H2 → wpAny (model X.prog X.w) X.A (f v u) Q X.xe s2) :
    wpAny (model X.prog X.w) X.A (eval a X.env) (fun v s₁ => wpAny (model X.prog X.w) X.A (eval b X.env) (fun u s₂ => wpAny (model X.prog X.w) X.A (f v u) Q X.xe s₂) X.xe s₁) X.xe s := by
  refine thn (ha pins s σ H _ I h) fun v s1 ⟨x, H1, I1, r1, q1⟩ => ?_
  refine thn (hb pins s1 σ H1 _ I1 q1) fun u s2 ⟨y, H2, I2, r2, q2⟩ => ?_
  exact hf v u s2 x y H2 I2 r1 r2 q2

theorem pe_op {op : Operator} {r : R2} (ho : OpR X (binaryOp op) r) (ha : PE X a ta) (hb : PE X b tb) : PE X (.BinOp a op b pos) (tOp r ta tb) := by
  intro pins s σ H Q I h
  exact wpAny_BinOp (binT ha hb I h fun v u s2 x y H2 I2 rx ry q => ho pins s2 σ H2 x y v u Q I2 rx ry q)
theorem pe_un {op : UnaryOp} {r : V → Hp → VK → Prop} (ho : UnR X (unaryOp op) r) (ha : PE X a ta) : PE X (.UnaryOp op a pos) (tUn r ta) := by
  intro pins s σ H Q I h
  exact UnaryOp_ (thn (ha pins s σ H _ I h) fun v s1 ⟨x, H1, I1, r1, q1⟩ => ho pins s1 σ H1 x v Q I1 r1 q1)
/-! ### ints -/
theorem opI {f : Value → Value → Sem Value} {C : Int → Int → Prop} {g : Int → Int → Int}
    (rule : ∀ (i j : Int) (t u : Tok) (s : Shared) (Q : Value → Shared → Prop) (E : Value → Shared → Prop), C i j → Q (.int (g i j) s.toks) { s with toks := s.toks + 1 } → wpAny (model X.prog X.w) X.A (f (.int i t) (.int j u)) Q E s) :
    OpR X f (rI C fun i j => .int (g i j)) := by
  intro pins s σ H x y v u Q I rx ry h
  obtain ⟨i, j, rfl, rfl, hc, q⟩ := h
  obtain ⟨t, rfl⟩ := rx
  obtain ⟨t', rfl⟩ := ry
  exact rule i j t t' s _ _ hc ⟨.int (g i j), H, I.tok _, ⟨_, rfl⟩, q⟩
theorem opI0 {f : Value → Value → Sem Value} {g : Int → Int → Int}
    (rule : ∀ (i j : Int) (t u : Tok) (s : Shared) (Q : Value → Shared → Prop) (E : Value → Shared → Prop), Q (.int (g i j) s.toks) { s with toks := s.toks + 1 } → wpAny (model X.prog X.w) X.A (f (.int i t) (.int j u)) Q E s) :
    OpR X f (rI0 fun i j => .int (g i j)) := by
  intro pins s σ H x y v u Q I rx ry h
  obtain ⟨i, j, rfl, rfl, q⟩ := h
  obtain ⟨t, rfl⟩ := rx
  obtain ⟨t', rfl⟩ := ry
  exact rule i j t t' s _ _ ⟨.int (g i j), H, I.tok _, ⟨_, rfl⟩, q⟩
theorem opB0 {f : Value → Value → Sem Value} {g : Int → Int → Bool}
    (rule : ∀ (i j : Int) (t u : Tok) (s : Shared) (Q : Value → Shared → Prop) (E : Value → Shared → Prop), Q (.bool (g i j)) s → wpAny (model X.prog X.w) X.A (f (.int i t) (.int j u)) Q E s) :
    OpR X f (rI0 fun i j => .bl (g i j)) := by
  intro pins s σ H x y v u Q I rx ry h
  obtain ⟨i, j, rfl, rfl, q⟩ := h
  obtain ⟨t, rfl⟩ := rx
  obtain ⟨t', rfl⟩ := ry
  exact rule i j t t' s _ _ ⟨.bl (g i j), H, I, rfl, q⟩

def CDiv (i j : Int) : Prop := 0 < j ∧ j < 1073741824
def CDivN (i j : Int) : Prop := j ≠ 0 ∧ j.natAbs < 1073741824
def CPow (i j : Int) : Prop := 0 ≤ j ∧ j ≤ 1000000 ∧ i.natAbs < 2 ^ 64
def CMul (i j : Int) : Prop := (-(2 ^ 64) < i ∧ i < 2 ^ 64) ∨ (-(2 ^ 64) < j ∧ j < 2 ^ 64)
theorem CMul.ok {i j : Int} (h : CMul i j) : IntMulOk i j := by
  rcases h with ⟨h1, h2⟩ | ⟨h1, h2⟩
  · exact .of_left (intBits_le_64 h1 h2)
  · exact .of_right (intBits_le_64 h1 h2)
theorem op_add : OpR X (binaryOp .Add) (rI0 fun i j => .int (i + j)) := opI0 fun _ _ _ _ _ _ _ q => add_int q
theorem op_sub : OpR X (binaryOp .Sub) (rI0 fun i j => .int (i - j)) := opI0 fun _ _ _ _ _ _ _ q => sub_int q
theorem op_mul : OpR X (binaryOp .Mult) (rI CMul fun i j => .int (i * j)) := opI fun _ _ _ _ _ _ _ hc q => mul_int q hc.ok
/-- // by a positive divisor -/
theorem op_fdiv : OpR X (binaryOp .FloorDiv) (rI CDiv fun i j => .int (i / j)) := opI fun i j _ _ _ _ _ hc q => by
  have h1 : (0 : Int) < j := hc.1
  have h2 : j < 1073741824 := hc.2
  exact floordiv_int (by omega) (by rw [Int.fdiv_eq_ediv_of_nonneg i (by omega)]; exact q) (.inl (PyProof.noPylong_small (by omega)))
/-- % by a positive divisor of any size -/
theorem op_mod : OpR X (binaryOp .Mod) (rI (fun _ j => 0 < j) fun i j => .int (i % j)) := opI fun i j _ _ _ _ _ hc q => by
  have h1 : (0 : Int) < j := hc
  exact mod_int' (by omega) (by rw [Int.fmod_eq_emod_of_nonneg i (by omega)]; exact q)
theorem op_pow : OpR X (binaryOp .Pow) (rI CPow fun i j => .int (i ^ j.toNat)) := opI fun _ _ _ _ _ _ _ hc q => pow_int_small hc.1 hc.2.1 hc.2.2 q
theorem unI {f : Value → Sem Value} {g : Int → Int}
    (rule : ∀ (i : Int) (t : Tok) (s : Shared) (Q : Value → Shared → Prop) (E : Value → Shared → Prop), Q (.int (g i) s.toks) { s with toks := s.toks + 1 } → wpAny (model X.prog X.w) X.A (f (.int i t)) Q E s) :
    UnR X f (rU fun i => .int (g i)) := by
  intro pins s σ H x v Q I rx h
  obtain ⟨i, rfl, q⟩ := h
  obtain ⟨t, rfl⟩ := rx
  exact rule i t s _ _ ⟨.int (g i), H, I.tok _, ⟨_, rfl⟩, q⟩
theorem un_neg : UnR X (unaryOp .USub) (rU fun i => .int (-i)) := unI fun _ _ _ _ _ q => neg_int q
/-! ### bools among ints: n += (a < b) -/
end

/-! ### comparisons -/
/-- the scalars that == tells apart as data does -/
def scal : V → V → Bool
  | .non, .non => true | .non, .int _ => true | .int _, .non => true | .non, .bl _ => true | .bl _, .non => true | .non, .str _ => true | .str _, .non => true
  | .int _, .int _ => true | .bl _, .bl _ => true | .str _, .str _ => true | .byt _, .byt _ => true
  | .int _, .str _ => true | .str _, .int _ => true | .bl _, .str _ => true | .str _, .bl _ => true
  | _, _ => false
def rEq : R2 := fun x y H Q => scal x y = true ∧ Q (.bl (decide (x = y))) H
def rNe : R2 := fun x y H Q => scal x y = true ∧ Q (.bl (!decide (x = y))) H

theorem dec_int {i j : Int} : decide (V.int i = V.int j) = (i == j) := by
  rw [Bool.eq_iff_iff]
  simp
theorem dec_bl {i j : Bool} : decide (V.bl i = V.bl j) = (i == j) := by
  rw [Bool.eq_iff_iff]
  simp
theorem dec_str {i j : Str} : decide (V.str i = V.str j) = (i == j) := by
  rw [Bool.eq_iff_iff]
  simp
theorem dec_byt {i j : Array UInt8} : decide (V.byt i = V.byt j) = (i.toList == j.toList) := by
  rw [Bool.eq_iff_iff]
  cases i
  cases j
  simp

section
variable {X : Cx} {a b c : Expr} {ta tb tc : TE} {pos : Pos}
theorem fin_bl {pins : List (Addr × Obj)} {σ : St} {H : Hp} {s : Shared} {Q : VK} {k k' : Bool} (I : Inv X pins σ H s) (q : Q (.bl k) H) (e : k = k') : EP X pins σ Q (.bool k') s := by
  subst e
  exact ⟨.bl k, H, I, rfl, q⟩
theorem op_eq : OpR X (compareOp .Eq) rEq := by
  intro pins s σ H x y v u Q I rx ry h
  obtain ⟨hs, q⟩ := h
  cases x with
  | non =>
    cases rx
    cases y with
    | non => cases ry; exact PySem.EqNone.eq_none_none (fin_bl I q (by simp))
    | bl j => cases ry; exact PySem.EqNone.eq_none_bool (fin_bl I q (by simp))
    | int j => obtain ⟨t', rfl⟩ := ry; exact PySem.EqNone.eq_none_int (fin_bl I q (by simp))
    | str j => obtain ⟨t', rfl⟩ := ry; exact PySem.EqNone.eq_none_str (fin_bl I q (by simp))
    | _ => exact absurd (show false = true from hs) Bool.false_ne_true
  | bl i =>
    cases rx
    cases y with
    | non => cases ry; exact PySem.EqNone.eq_bool_none (fin_bl I q (by simp))
    | bl j => cases ry; exact eq_bool (fin_bl I q dec_bl)
    | str j => obtain ⟨t', rfl⟩ := ry; exact PySem.EqMixed.eq_bool_str (fin_bl I q (by simp))
    | _ => exact absurd (show false = true from hs) Bool.false_ne_true
  | int i =>
    obtain ⟨t, rfl⟩ := rx
    cases y with
    | non => cases ry; exact PySem.EqNone.eq_int_none (fin_bl I q (by simp))
    | int j => obtain ⟨t', rfl⟩ := ry; exact eq_int (fin_bl I q dec_int)
    | str j => obtain ⟨t', rfl⟩ := ry; exact PySem.EqMixed.eq_int_str (fin_bl I q (by simp))
    | _ => exact absurd (show false = true from hs) Bool.false_ne_true
  | str i =>
    obtain ⟨t, rfl⟩ := rx
    cases y with
    | non => cases ry; exact PySem.EqNone.eq_str_none (fin_bl I q (by simp))
    | bl j => cases ry; exact PySem.EqMixed.eq_str_bool (fin_bl I q (by simp))
    | int j => obtain ⟨t', rfl⟩ := ry; exact PySem.EqMixed.eq_str_int (fin_bl I q (by simp))
    | str j => obtain ⟨t', rfl⟩ := ry; exact eq_str (fin_bl I q dec_str)
    | _ => exact absurd (show false = true from hs) Bool.false_ne_true
  | byt i =>
    obtain ⟨t, rfl⟩ := rx
    cases y with
    | byt j => obtain ⟨t', rfl⟩ := ry; exact PySem.W.eq_bytes (fin_bl I q dec_byt)
    | _ => exact absurd (show false = true from hs) Bool.false_ne_true
  | _ => cases y <;> exact absurd (show false = true from hs) Bool.false_ne_true
theorem op_ne : OpR X (compareOp .NotEq) rNe := by
  intro pins s σ H x y v u Q I rx ry h
  obtain ⟨hs, q⟩ := h
  cases x with
  | non =>
    cases rx
    cases y with
    | non => cases ry; exact PySem.EqNone.ne_none_none (fin_bl I q (by simp))
    | bl j => cases ry; exact PySem.EqNone.ne_none_bool (fin_bl I q (by simp))
    | int j => obtain ⟨t', rfl⟩ := ry; exact PySem.EqNone.ne_none_int (fin_bl I q (by simp))
    | str j => obtain ⟨t', rfl⟩ := ry; exact PySem.EqNone.ne_none_str (fin_bl I q (by simp))
    | _ => exact absurd (show false = true from hs) Bool.false_ne_true
  | bl i =>
    cases rx
    cases y with
    | non => cases ry; exact PySem.EqNone.ne_bool_none (fin_bl I q (by simp))
    | bl j => cases ry; exact ne_bool (fin_bl I q (congrArg not dec_bl))
    | str j => obtain ⟨t', rfl⟩ := ry; exact PySem.EqMixed.ne_bool_str (fin_bl I q (by simp))
    | _ => exact absurd (show false = true from hs) Bool.false_ne_true
  | int i =>
    obtain ⟨t, rfl⟩ := rx
    cases y with
    | non => cases ry; exact PySem.EqNone.ne_int_none (fin_bl I q (by simp))
    | int j => obtain ⟨t', rfl⟩ := ry; exact ne_int (fin_bl I q (congrArg not dec_int))
    | str j => obtain ⟨t', rfl⟩ := ry; exact PySem.EqMixed.ne_int_str (fin_bl I q (by simp))
    | _ => exact absurd (show false = true from hs) Bool.false_ne_true
  | str i =>
    obtain ⟨t, rfl⟩ := rx
    cases y with
    | non => cases ry; exact PySem.EqNone.ne_str_none (fin_bl I q (by simp))
    | bl j => cases ry; exact PySem.EqMixed.ne_str_bool (fin_bl I q (by simp))
    | int j => obtain ⟨t', rfl⟩ := ry; exact PySem.EqMixed.ne_str_int (fin_bl I q (by simp))
    | str j => obtain ⟨t', rfl⟩ := ry; exact ne_str (fin_bl I q (congrArg not dec_str))
    | _ => exact absurd (show false = true from hs) Bool.false_ne_true
  | byt i =>
    obtain ⟨t, rfl⟩ := rx
    cases y with
    | byt j => obtain ⟨t', rfl⟩ := ry; exact PySem.W.ne_bytes (fin_bl I q (congrArg not dec_byt))
    | _ => exact absurd (show false = true from hs) Bool.false_ne_true
  | _ => cases y <;> exact absurd (show false = true from hs) Bool.false_ne_true

theorem op_lt : OpR X (compareOp .Lt) (rI0 fun i j => .bl (decide (i < j))) := opB0 fun _ _ _ _ _ _ _ q => lt_int q
theorem op_gt : OpR X (compareOp .Gt) (rI0 fun i j => .bl (decide (j < i))) := opB0 fun _ _ _ _ _ _ _ q => gt_int q
theorem op_ge : OpR X (compareOp .GtE) (rI0 fun i j => .bl (decide (j ≤ i))) := opB0 fun _ _ _ _ _ _ _ q => ge_int q
theorem op_notN : OpR X (compareOp .IsNot) (fun x y H Q => y = .non ∧ Q (.bl (!decide (x = .non))) H) := by
  intro pins s σ H x y v u Q I rx ry h
  obtain ⟨rfl, q⟩ := h
  cases ry
  refine isnot_none_gen (fin_bl I q ?_)
  cases x <;> first
    | (cases rx; rfl)
    | (obtain ⟨t, rfl⟩ := rx; rfl)

/-- is, is not of two objects that are tracked lists or instances -/
def isObj : HO → Bool
  | .lst _ => true
  | .ins _ _ _ => true
  | _ => false
theorem nomark (b : Expr) {op : CmpOp} (h : op ≠ .In := by decide) (h2 : op ≠ .NotIn := by decide) : behindInMarks op b = false := by
  have e1 : (op == CmpOp.In) = false := by cases op <;> first | rfl | exact absurd rfl h
  have e2 : (op == CmpOp.NotIn) = false := by cases op <;> first | rfl | exact absurd rfl h2
  cases b <;> simp [behindInMarks, e1, e2]
/-- a comparison as a value; hm: nomark b, or (for in, not in) by with_unfolding_all rfl -/
theorem pe_cmpR {op : CmpOp} {r : R2} (ho : OpR X (compareOp op) r) (ha : PE X a ta) (hb : PE X b tb) (hm : behindInMarks op b = false) : PE X (.Compare a [op] [b] pos) (tOp r ta tb) := by
  intro pins s σ H Q I h
  exact wpAny_Compare1 (binT ha hb I h fun v u s2 x y H2 I2 rx ry q => ho pins s2 σ H2 x y v u Q I2 rx ry q) hm
/-- a reading of a value as a test -/
def tTest (t : TE) : TT := fun σ H Q => t σ H fun x H' => ∃ k, x = .bl k ∧ Q k H'
theorem pt_cmpR {op : CmpOp} {r : R2} (ho : OpR X (compareOp op) r) (ha : PE X a ta) (hb : PE X b tb) (hm : behindInMarks op b = false) : PT X (.Compare a [op] [b] pos) (tTest (tOp r ta tb)) := by
  intro pins s σ H Q I h
  refine wpAny_isTrue_Compare1 (thn (ha pins s σ H _ I h) fun v s1 ⟨x, H1, I1, r1, q1⟩ => thn (hb pins s1 σ H1 _ I1 q1) fun u s2 ⟨y, H2, I2, r2, q2⟩ =>
    thn (ho pins s2 σ H2 x y v u _ I2 r1 r2 q2) fun c s3 ⟨z, H3, I3, r3, k, e, q3⟩ => ?_) hm
  subst e
  cases r3
  exact wpAny_truthy_bool ⟨H3, I3, q3⟩
/-- a op1 b op2 c -/
def tChain (r r' : R2) (ta tb tc : TE) : TE := fun σ H Q => ta σ H fun x H1 => tb σ H1 fun y H2 => r x y H2 fun z H3 => ∃ k, z = .bl k ∧
  (if k = true then tc σ H3 fun w' H4 => r' y w' H4 Q else Q (.bl false) H3)
/-! ### truth -/
/-- a value's truth by the abstract heap -/
def TruV (K : PySem.W.Frag) (x : V) (H : Hp) (k : Bool) : Prop :=
  match x with
  | .non => k = false
  | .bl b => k = b
  | .int i => k = (i != 0)
  | .str y => y.length ≤ sizeLine ∧ k = ((y.length : Int) != 0)
  | .byt y => y.size ≤ sizeLine ∧ k = ((y.size : Int) != 0)
  | .ref p => (∃ xs, SqL K H p xs ∧ k = !xs.isEmpty) ∨ (∃ xs, SqT K H p xs ∧ k = !xs.isEmpty) ∨ ∃ kvs, H p = some (.dK kvs) ∧ k = !kvs.isEmpty
  | _ => False
theorem line63 : (sizeLine : Nat) < 2 ^ 63 := by rw [sizeLine_eq]; decide
/-! ### strs and bytes -/
def PlainIxT (b : Expr) : Prop := ∀ o i, subscripted b false o i = operate [o, i] (getItem o i)
/-! ### scalar builtins, by CallR -/
theorem vals1 {x : V} {us : List Value} (r : Vals [x] us) : ∃ u, us = [u] ∧ RelV x u := by
  cases r with
  | cons r1 r2 => cases r2; exact ⟨_, rfl, r1⟩
theorem vals2 {x y : V} {us : List Value} (r : Vals [x, y] us) : ∃ u w', us = [u, w'] ∧ RelV x u ∧ RelV y w' := by
  cases r with
  | cons r1 r2 =>
    cases r2 with
    | cons r3 r4 => cases r4; exact ⟨_, _, rfl, r1, r3⟩
theorem call_min2 (hc : X.calm = true) : CallR X (.builtin "min") (fun xs H Q => ∃ i j, xs = [.int i, .int j] ∧ Q (.int (if j < i then j else i)) H) := by
  intro pins s σ H xs us Q I r h
  obtain ⟨i, j, rfl, q⟩ := h
  obtain ⟨u, w', rfl, ⟨t, rfl⟩, ⟨t', rfl⟩⟩ := vals2 r
  refine min_two_ints (I.ok.hd hc) fun h' tk k => ⟨_, H, I.kept k, ?_, q⟩
  by_cases hj : j < i
  · rw [if_pos hj, if_pos hj]; exact ⟨_, rfl⟩
  · rw [if_neg hj, if_neg hj]; exact ⟨_, rfl⟩
/-- len of a str, a bytes, a list, a tuple -/
def LenV (K : PySem.W.Frag) (x : V) (H : Hp) (n : Nat) : Prop :=
  match x with
  | .str y => y.length ≤ sizeLine ∧ n = y.length
  | .byt y => y.size ≤ sizeLine ∧ n = y.size
  | .ref p => (∃ xs, SqL K H p xs ∧ n = xs.length) ∨ ∃ xs, SqT K H p xs ∧ n = xs.length
  | _ => False
end
end L2

namespace L2
open PySem PySem.Spec PyProof.Rows

/-! ### an instance, its attributes a map -/
structure ObjM (h : Heap) (x dx C : Addr) (mA : Str → Option Value) : Prop where
  obj : h.get? x = some (PySem.W.instObj C dx)
  ns : h.Ns1 dx mA
  ne : dx ≠ x

theorem lookIn_ns {h : Heap} {dx : Addr} {mA : Str → Option Value} (n : h.Ns1 dx mA) : ∃ od, h.get? dx = some od ∧ ∀ name, PySem.W.lookIn name od = some (mA name) := by
  obtain ⟨o, es, ep, ho, hd, hk, _, hm⟩ := n
  refine ⟨o, ho, fun name => ?_⟩
  have e := hm name
  unfold nsFind findBy at e
  rw [← Array.find?_toList] at e
  unfold PySem.W.lookIn
  rw [hd]
  dsimp only
  split
  · rename_i y q
    rw [q] at e
    exact congrArg some e
  · rename_i q
    rw [q] at e
    have a : es.toList.any (·.refKey) = false := by
      rw [List.any_eq_false]
      intro y hy
      obtain ⟨z, t, hkey⟩ := hk y (Array.mem_toList_iff.mp hy)
      simp [DictEntry.refKey, hkey]
    have a' : ¬ es.toList.any (·.refKey) = true := by rw [a]; exact Bool.false_ne_true
    rw [if_neg a']
    exact congrArg some e

theorem ObjM.look {h : Heap} {x dx C : Addr} {mA : Str → Option Value} (I : ObjM h x dx C mA) : ∃ od, PySem.W.InstAt h x (PySem.W.instObj C dx) C (some od) ∧ ∀ name, PySem.W.lookIn name od = some (mA name) :=
  let ⟨od, ho, hl⟩ := lookIn_ns I.ns
  ⟨od, ⟨I.obj, rfl, rfl, ho⟩, hl⟩

section
variable {prog : Program} {w : World} {A : Around} {E : Value → Shared → Prop} {s : Shared} {K : PySem.W.Frag} {x dx C f : Addr} {mA : Str → Option Value} {name : Str} {v : Value}

end

/-! ### the attributes as a list of pairs -/
def putF (f : Str) (v : V) : List (Str × V) → List (Str × V)
  | [] => [(f, v)]
  | (g, x) :: r => if g = f then (g, v) :: r else (g, x) :: putF f v r
section
variable {P : Program} {w : World} {H H' : Hp} {h h' : Heap} {a C dx : Addr} {fs fs' : List (Str × V)}
theorem ins_get (hok : HOk P w H h) (e : H a = some (.ins C dx fs)) : ∃ mA, ObjM h a dx C mA ∧ (∀ f, RelO (fs.lookup f) (mA f)) ∧ PySem.Within mA (fs.map (·.1)) ∧ fs.length ≤ 1000 ∧ H dx = some (.own a) := by
  obtain ⟨d, z, ne, ob, mA, n, r, q⟩ := (show ObjOk P w H h a (.ins C dx fs) from hok a _ e)
  exact ⟨mA, ⟨ob, n, ne⟩, r, q, z, d⟩
end

/-! ### what of the text a class must have -/
structure Cls (K : PySem.W.Frag) (C : Addr) : Prop where
  pg : PySem.W.plainGet K C Str.empty = true
  hd : PySem.W.hasDictIn K C = true
  po : PySem.W.plainOver K C = true
  sa : PySem.W.findIn K (.ref C) "__setattr__" = some (some (.builtin "object.__setattr__"))
theorem Cls.get {K : PySem.W.Frag} {C : Addr} (c : Cls K C) (f : Str) : PySem.W.plainGet K C f = true := c.pg
/-- no class of it has the name -/
def NoAttr (K : PySem.W.Frag) (C : Addr) (f : Str) : Prop := PySem.W.findIn K (.ref C) f = some none
/-- a constant of the class -/
structure Con (K : PySem.W.Frag) (C : Addr) (f : Str) (v : V) (u : Value) : Prop where
  at_ : PySem.W.findIn K (.ref C) f = some (some u)
  rel : RelV v u
  get : PySem.W.specialIn K u "__get__" = some none
  cp : PySem.W.copiedNames.contains f = false
/-- a method: a plain def of the class or of one above it -/
structure Meth (K : PySem.W.Frag) (C : Addr) (m : Str) (f : Addr) : Prop where
  at_ : PySem.W.findIn K (.ref C) m = some (some (.ref f))
  fn : PySem.W.isFn K (.ref f) = true
  kp : PySem.W.keepIn K (.ref f) = true

section
variable {X : Cx} {pins : List (Addr × Obj)} {σ : St} {H : Hp} {s : Shared} {a C dx : Addr} {fs : List (Str × V)} {f : Str} {v : V} {A : Around} {E : Value → Shared → Prop}

end

/-! ### readings and rules -/
/-- e.f, an attribute of the instance -/
def tFld (K : PySem.W.Frag) (ta : TE) (f : Str) : TE := fun σ H Q => ta σ H fun x H1 => ∃ a C dx fs v, x = .ref a ∧ H1 a = some (.ins C dx fs) ∧ Cls K C ∧ NoAttr K C f ∧ fs.lookup f = some v ∧ Q v H1
/-- e.f, a constant of the class -/
def tCon (K : PySem.W.Frag) (ta : TE) (f : Str) : TE := fun σ H Q => ta σ H fun x H1 => ∃ a C dx fs v u, x = .ref a ∧ H1 a = some (.ins C dx fs) ∧ Cls K C ∧ Con K C f v u ∧ fs.lookup f = none ∧ Q v H1
/-- e.f = value -/
def sFld (K : PySem.W.Frag) (ta tv : TE) (f : Str) : TS := fun D σ H => tv σ H fun y H1 => ta σ H1 fun x H2 => ∃ a C dx fs, x = .ref a ∧ H2 a = some (.ins C dx fs) ∧ Cls K C ∧ NoAttr K C f ∧ fs.length < 1000 ∧
  D.nx σ (upd H2 a (.ins C dx (putF f y fs)))
/-- an augmented operator on two values -/
def InOp (X : Cx) (op : Operator) (rd : V → V → Hp → VK → Prop) : Prop :=
  ∀ (pins : List (Addr × Obj)) (s : Shared) (σ : St) (H : Hp) (x y : V) (u v : Value) (Q : VK), Inv X pins σ H s → RelV x u → RelV y v → rd x y H Q → wpAny (model X.prog X.w) X.A (inplaceOp op u v) (EP X pins σ Q) X.xe s
/-- e.f op= value -/
def sFldAug (K : PySem.W.Frag) (ta tv : TE) (rd : V → V → Hp → VK → Prop) (f : Str) : TS := fun D σ H => ta σ H fun x H1 => ∃ a C dx fs v, x = .ref a ∧ H1 a = some (.ins C dx fs) ∧ Cls K C ∧ NoAttr K C f ∧ fs.lookup f = some v ∧
  tv σ H1 fun y H2 => rd v y H2 fun z H3 => ∃ dx' fs', H3 a = some (.ins C dx' fs') ∧ fs'.length < 1000 ∧ D.nx σ (upd H3 a (.ins C dx' (putF f z fs')))

section
variable {X : Cx} {o e value : Expr} {f : Str} {pos pos' tpos : Pos} {ta tv : TE}
def rAdd : V → V → Hp → VK → Prop := fun x y H Q => ∃ i j, x = .int i ∧ y = .int j ∧ Q (.int (i + j)) H
def rSub : V → V → Hp → VK → Prop := fun x y H Q => ∃ i j, x = .int i ∧ y = .int j ∧ Q (.int (i - j)) H
end

/-! ### isinstance -/
section
variable {X : Cx} {pins : List (Addr × Obj)} {σ : St} {H : Hp} {s : Shared} {A : Around} {E : Value → Shared → Prop} {Q : Value → Shared → Prop} {c : Value} {b : Bool}
/-- the type of a value, as the fragment's deciders take it; for an instance its class -/
inductive TyOf (K : PySem.W.Frag) (H : Hp) : V → Value → Prop where
  | non : TyOf K H .non (.type "NoneType")
  | bl (x : Bool) : TyOf K H (.bl x) (.type "bool")
  | int (i : Int) : TyOf K H (.int i) (.type "int")
  | str (x : Str) : TyOf K H (.str x) (.type "str")
  | flt (x : UInt64) : TyOf K H (.flt x) (.type "float")
  | lst {a : Addr} {xs : List V} (e : H a = some (.lst xs)) : TyOf K H (.ref a) (.type "list")
  | frz {a : Addr} {o : Obj} {xs : List V} (e : H a = some (.frz o (.lst xs))) : TyOf K H (.ref a) (.type "list")
  | tup {a : Addr} {xs : List V} (e : H a = some (.tup xs)) : TyOf K H (.ref a) (.type "tuple")
  | dK {a : Addr} {kvs : List (Key × V)} (e : H a = some (.dK kvs)) : TyOf K H (.ref a) (.type "dict")
  | dT {a : Addr} {kvs : List (List Key × V)} (e : H a = some (.dT kvs)) : TyOf K H (.ref a) (.type "dict")
  | ins {a C dx : Addr} {fs : List (Str × V)} (e : H a = some (.ins C dx fs)) (cl : Cls K C) (ha : PySem.W.findIn K (.ref C) "__class__" = some (some (.builtin "object.__class__")))
      (hn : PySem.W.specialIn K (.builtin "object.__class__") "__get__" = some (some (.builtin "getset_descriptor.__get__"))) (htk : PySem.W.takesIn K (.builtin "object.__class__") = some true)
      (hm : PySem.W.mroIn K C (.type "object") = some true) : TyOf K H (.ref a) (.ref C)
/-- isinstance(x, c) for one class c, a built-in or an own one: kitOne's answer -/
theorem isinst_ok {x : V} {u t : Value} (I : Inv X pins σ H s) (rx : RelV x u) (ty : TyOf X.K H x t) (e : PySem.W.kitOne X.K t c = some b) (h : ∀ tk, Q (.bool b) { s with toks := tk }) :
    wpAny (model X.prog X.w) A (call (.builtin "isinstance") [u, c]) Q E s := by
  cases ty with
  | non => cases (show u = Value.none from rx); exact PySem.W.kia_one PySem.W.kitx_none I.kIn True.intro e (fun z => nomatch z) h
  | bl y => cases (show u = Value.bool y from rx); exact PySem.W.kia_one PySem.W.kitx_bool I.kIn True.intro e (fun z => nomatch z) h
  | int i => obtain ⟨t, q⟩ := (show ∃ t, u = Value.int i t from rx); cases q; exact PySem.W.kia_one PySem.W.kitx_int I.kIn True.intro e (fun z => nomatch z) h
  | str y => obtain ⟨t, q⟩ := (show ∃ t, u = Value.str y t from rx); cases q; exact PySem.W.kia_one PySem.W.kitx_str I.kIn True.intro e (fun z => nomatch z) h
  | flt y => obtain ⟨t, q⟩ := (show ∃ t, u = Value.float y t from rx); cases q; exact PySem.W.kia_one PySem.W.kitx_float I.kIn True.intro e (fun z => nomatch z) h
  | @lst a xs ea =>
    cases (show u = Value.ref a from rx)
    obtain ⟨_, _, n, _, h1⟩ := (show ObjOk X.prog X.w H s.heap a (.lst xs) from I.hok a _ ea)
    exact PySem.W.kia_one PySem.W.kitx_list I.kIn ⟨_, h1, rfl⟩ e (fun z => nomatch z) h
  | @frz a ob xs ea =>
    cases (show u = Value.ref a from rx)
    obtain ⟨_, _, _, n, _, h1⟩ := (show ObjOk X.prog X.w H s.heap a (.frz ob (.lst xs)) from I.hok a _ ea)
    exact PySem.W.kia_one PySem.W.kitx_list I.kIn ⟨_, h1, rfl⟩ e (fun z => nomatch z) h
  | @tup a xs ea =>
    cases (show u = Value.ref a from rx)
    obtain ⟨_, _, _, p⟩ := (show ObjOk X.prog X.w H s.heap a (.tup xs) from I.hok a _ ea)
    obtain ⟨o, h1, h2, _⟩ := p
    exact PySem.W.kia_one PySem.W.kitx_tuple I.kIn ⟨o, h1, h2⟩ e (fun z => nomatch z) h
  | @dK a kvs ea =>
    cases (show u = Value.ref a from rx)
    obtain ⟨_, _, vs, _, p⟩ := (show ObjOk X.prog X.w H s.heap a (.dK kvs) from I.hok a _ ea)
    obtain ⟨o, es, ep, h1, h2, _⟩ := p
    exact PySem.W.kia_one PySem.W.kitx_dict I.kIn ⟨o, h1, h2.1⟩ e (fun z => nomatch z) h
  | @dT a kvs ea =>
    cases (show u = Value.ref a from rx)
    obtain ⟨_, _, xs, _, o, es, ep, h1, h2, _⟩ := (show ObjOk X.prog X.w H s.heap a (.dT kvs) from I.hok a _ ea)
    exact PySem.W.kia_one PySem.W.kitx_dict I.kIn ⟨o, h1, h2.1⟩ e (fun z => nomatch z) h
  | @ins a C dx fs ea cl ha hn htk hm =>
    cases (show u = Value.ref a from rx)
    obtain ⟨mA, O, _⟩ := ins_get I.hok ea
    obtain ⟨od, J, _⟩ := O.look
    exact PySem.W.kia_one (PySem.W.kitx_own (cl.get _) cl.hd ha hn htk hm) I.kIn J e (fun z => nomatch z) h
end
end L2

namespace L2
open PySem PySem.Spec PyProof.Rows

/-! ### room -/
structure Room (k : Nat) (A : Around) : Prop where
  hd : A.handled = none
  dp : A.depth + 3 * k + 5 < recursionLimit
  un : A.units + 16 * k + 200 < cLine
  gd : A.guards = some []
theorem Room.mono {j k : Nat} {A : Around} (r : Room k A) (h : j ≤ k) : Room j A := ⟨r.hd, by have := r.dp; omega, by have := r.un; omega, r.gd⟩
theorem Room.deeper {k : Nat} {A : Around} (r : Room (k + 1) A) (env : Env) : Room k (A.deeper env) :=
  ⟨r.hd, by have := r.dp; show A.depth + 1 + 3 * k + 5 < _; omega, by have := r.un; show A.units + 3 + 16 * k + 200 < _; omega, r.gd⟩
theorem Room.depth {k : Nat} {A : Around} (r : Room k A) : A.depth < recursionLimit := by have := r.dp; omega
theorem Room.units {k : Nat} {A : Around} (r : Room k A) : A.units + 64 < cLine := by have := r.un; omega
theorem Room.units0 {k : Nat} {A : Around} (r : Room k A) : A.units < cLine := by have := r.un; omega

/-! ### argument lists and displays -/
def tNil : TA := fun _ H Q => Q [] H
def tCons (ta : TE) (tr : TA) : TA := fun σ H Q => ta σ H fun x H1 => tr σ H1 fun xs H2 => Q (x :: xs) H2
section
variable {X : Cx} {e : Expr} {es : List Expr} {te : TE} {t : TA} {pos : Pos}
theorem pa_nil : PA X [] tNil := fun _ _ _ _ H Q I h => Calls.spliced_nil ⟨[], H, I, .nil, h⟩
theorem pa_cons (ha : PE X e te) (hr : PA X es t) (hs : starEach (e :: es) X.env = (false, eval e X.env) :: starEach es X.env := by rfl) : PA X (e :: es) (tCons te t) := by
  intro pos pins s σ H Q I h
  rw [hs]
  show wpAny _ _ (spliced ((false, eval e X.env) :: backTo pos (starEach es X.env))) _ _ s
  refine Calls.spliced_cons (thn (ha pins s σ H _ I h) fun u s1 ⟨x, H1, I1, r1, q1⟩ => ?_)
  exact thn (hr pos pins s1 σ H1 _ I1 q1) fun us s2 ⟨xs, H2, I2, r2, q2⟩ => ⟨x :: xs, H2, I2, .cons r1 r2, q2⟩

/-- a tuple, a list of written items -/
def tTup (t : TA) : TE := fun σ H Q => t σ H fun xs H1 => xs.length ≤ sizeLine ∧ ∀ p, H1 p = none → Q (.ref p) (upd H1 p (.tup xs))
def tLst (t : TA) : TE := fun σ H Q => t σ H fun xs H1 => xs.length ≤ sizeLine ∧ ∀ p, H1 p = none → Q (.ref p) (upd H1 p (.lst xs))
theorem pe_tup {x1} (h : PA X es t) : PE X (.Tuple es x1 pos) (tTup t) := by
  intro pins s σ H Q I hq
  refine wpAny_Tuple_spliced (thn (h pos pins s σ H _ I hq) fun us s1 ⟨xs, H1, I1, r, z, q⟩ => ⟨by rw [← r.length]; exact z, ?_⟩)
  have hf : H1 s1.heap.objs.size = none := I1.hok.fresh (Nat.le_refl _)
  refine ⟨.ref s1.heap.objs.size, upd H1 s1.heap.objs.size (.tup xs), I1.laid (t' := s1.toks) (fun b u e => Heap.get?_push_of_some _ e) (Nat.le_refl _) ?_, rfl, q _ hf⟩
  exact ⟨⟨z, _, Heap.get?_push_size _ rfl, rfl⟩, us, r, ⟨_, Heap.get?_push_size _ rfl, rfl, _, rfl⟩⟩
theorem pe_lst (h : PA X es t) : PE X (.List es pos) (tLst t) := by
  intro pins s σ H Q I hq
  refine wpAny_List_spliced (thn (h pos pins s σ H _ I hq) fun us s1 ⟨xs, H1, I1, r, z, q⟩ => ⟨by rw [← r.length]; exact z, ?_⟩)
  have hf : H1 s1.heap.objs.size = none := I1.hok.fresh (Nat.le_refl _)
  refine ⟨.ref s1.heap.objs.size, upd H1 s1.heap.objs.size (.lst xs), I1.laid (t' := s1.toks) (fun b u e => Heap.get?_push_of_some _ e) (Nat.le_refl _) ?_, rfl, q _ hf⟩
  exact ⟨z, us, 0, r, Heap.get?_push_size _ rfl⟩
end

/-! ### what a def promises -/
/-- a def's promise: the bound arguments in the parameters' order, the heap, the wanted end, the wanted exception -/
abbrev Sp := List V → Hp → VK → XK → Prop
/-- how an exception lies behind a call (file 08 gives it): the callers' frames, abstract heap and state ahead of the call, the wish, the exception, the state -/
abbrev CXT := List Env → Hp → Shared → XK → Value → Shared → Prop

/-- the state at a call -/
structure Env0 (P : Program) (w : World) (K : PySem.W.Frag) (mg : Str → Option Value) (base : Heap) (A : Around) (outer : List Env) (s : Shared) (H : Hp) : Prop where
  frames : A.frames = some outer
  mod : Mod K mg base
  bs : ∀ b o, base.get? b = some o → s.heap.get? b = some o ∧ H b = none
  bsz : base.objs.size ≤ s.heap.objs.size
  funs : s.heap.FunFrames base outer
  frf : ∀ b ∈ frs outer, H b = none
  hok : HOk P w H s.heap
  bare : AllBare s.gens
/-- a call's end -/
def CE (outer : List Env) (P : Program) (w : World) (H : Hp) (s : Shared) (Q : VK) (u : Value) (s' : Shared) : Prop :=
  ∃ v H', s'.os = s.os ∧ AllBare s'.gens ∧ Un (frs outer) [] H H' s.heap s'.heap ∧ HOk P w H' s'.heap ∧ RelV v u ∧ Q v H'
def CR (CX : CXT) (outer : List Env) (P : Program) (w : World) (H : Hp) (s : Shared) (Q : VK) (E : XK) (r : Result) (s' : Shared) : Prop :=
  match r with
  | .ok (.ret u) => CE outer P w H s Q u s'
  | .ok _ => False
  | .error e => CX outer H s E e s'
structure FnOk (P : Program) (w : World) (K : PySem.W.Frag) (mg : Str → Option Value) (base : Heap) (CX : CXT) (k : Nat) (f : Addr) (fd : FuncData) (ps : List Str) (sp : Sp) : Prop where
  len : ∀ vs H Q E, sp vs H Q E → vs.length = ps.length
  run : ∀ (A : Around) (outer : List Env) (s : Shared) (H : Hp) (args : Args) (us : List Value) (vs : List V) (Q : VK) (E : XK), Room k A → Env0 P w K mg base A outer s H → BindsTo s fd args (ps.zip us) → Vals vs us → sp vs H Q E →
    codeAny (model P w) A (.call (.ref f) args) (CR CX outer P w H s Q E) s
theorem FnOk.mono {P : Program} {w : World} {K : PySem.W.Frag} {mg : Str → Option Value} {base : Heap} {CX : CXT} {j k : Nat} {f : Addr} {fd : FuncData} {ps : List Str} {sp : Sp} (F : FnOk P w K mg base CX j f fd ps sp) (h : j ≤ k) :
    FnOk P w K mg base CX k f fd ps sp := ⟨F.len, fun A outer s H args us vs Q E hr => F.run A outer s H args us vs Q E (hr.mono h)⟩
/-- a weaker promise -/
theorem FnOk.imp {P : Program} {w : World} {K : PySem.W.Frag} {mg : Str → Option Value} {base : Heap} {CX : CXT} {k : Nat} {f : Addr} {fd : FuncData} {ps : List Str} {sp sp' : Sp} (F : FnOk P w K mg base CX k f fd ps sp)
    (h : ∀ vs H Q E, sp' vs H Q E → sp vs H Q E) : FnOk P w K mg base CX k f fd ps sp' :=
  ⟨fun vs H Q E q => F.len vs H Q E (h _ _ _ _ q), fun A outer s H args us vs Q E hr he hb hv hs => F.run A outer s H args us vs Q E hr he hb hv (h _ _ _ _ hs)⟩

section
variable {X : Cx} {pins : List (Addr × Obj)} {σ : St} {H : Hp} {s s' : Shared}
/-- from a body: what a callee wants -/
theorem Inv.env0 (I : Inv X pins σ H s) : Env0 X.prog X.w X.K X.mg X.base X.A X.stack s H :=
  ⟨I.ok.frames, I.ok.mod, I.bs, Nat.le_trans I.ok.bsz I.sz, I.stack, I.stkFree, I.hok, I.bare⟩
/-- behind a call -/
theorem Inv.after {Q : VK} {u : Value} (I : Inv X pins σ H s) (h : CE X.stack X.prog X.w H s Q u s') : EP X pins σ Q u s' := by
  obtain ⟨v, H', os, bare, un, hok, r, q⟩ := h
  obtain ⟨hh, g, d, t, os'⟩ := s'
  obtain rfl : os' = s.os := os
  exact ⟨v, H', I.call (h' := hh) (g' := g) (d' := d) (t' := t) (ch := []) un hok bare (fun b z => absurd z (by simp)), r, q⟩
end

/-! ### calls -/
/-- f(..): the written arguments, then the defaults dvs; E: what is wanted of an exception -/
def tCall (sp : Sp) (dvs : List V) (E : XK) (t : TA) : TE := fun σ H Q => t σ H fun vs H1 => sp (vs ++ dvs) H1 Q E
/-- o.m(..) of an instance of the class at C -/
def tMeth (C : Addr) (m : Str) (sp : Sp) (dvs : List V) (E : XK) (ta : TE) (t : TA) : TE := fun σ H Q => ta σ H fun x H1 => ∃ a dx fs, x = .ref a ∧ H1 a = some (.ins C dx fs) ∧ fs.lookup m = none ∧
  t σ H1 fun vs H2 => sp (x :: (vs ++ dvs)) H2 Q E
/-- C(..): a new instance and its dict, then __init__ -/
def tMake (C : Addr) (sp : Sp) (dvs : List V) (E : XK) (t : TA) : TE := fun σ H Q => t σ H fun vs H1 => ∀ x dx, H1 x = none → H1 dx = none → dx ≠ x →
  sp (.ref x :: (vs ++ dvs)) (upd (upd H1 dx (.own x)) x (.ins C dx [])) (fun v H2 => v = .non ∧ Q (.ref x) H2) E

/-- how the parameters are bound: us the positional arguments, kw the keywords' values by name, ds the defaults that fill up -/
def Binds (K : PySem.W.Frag) (fd : FuncData) (ps : List Str) (ds : List Value) : Prop :=
  ∀ (s : Shared) (us : List Value), K.In s.heap → (us ++ ds).length = ps.length → BindsTo s fd ⟨us, []⟩ (ps.zip (us ++ ds))
/-- every parameter is given -/
theorem Binds.all {K : PySem.W.Frag} {fd : FuncData} {ps : List Str} (h : ∀ us : List Value, us.length = ps.length → bindArgs fd ⟨us, []⟩ = pure (ps.zip us)) : Binds K fd ps [] := fun s us _ hl => by
  rw [List.append_nil] at hl ⊢
  exact .of_eq (h us hl)

/-- an exception of a callee reaches what this body wants of exceptions -/
def Passes (CX : CXT) (X : Cx) (E : XK) : Prop := ∀ (pins : List (Addr × Obj)) (σ : St) (H : Hp) (s : Shared) (e : Value) (s' : Shared), Inv X pins σ H s → CX X.stack H s E e s' → X.xe e s'

section
variable {X : Cx} {CX : CXT} {k : Nat} {f C : Addr} {fd : FuncData} {ps : List Str} {sp : Sp} {dvs : List V} {ds : List Value} {E : XK} {x m : Str} {p pos apos : Pos} {e o : Expr} {es : List Expr} {ta : TE} {t : TA}

/-- the callee runs -/
theorem run_fn {pins : List (Addr × Obj)} {σ : St} {H : Hp} {s : Shared} {Q : VK} {us : List Value} {vs : List V} (F : FnOk X.prog X.w X.K X.mg X.base CX k f fd ps sp) (hr : Room k X.A) (hb : Binds X.K fd ps ds) (hd : Vals dvs ds) (hx : Passes CX X E)
    (I : Inv X pins σ H s) (r : Vals vs us) (h : sp (vs ++ dvs) H Q E) : wpAny (model X.prog X.w) X.A (call (.ref f) us) (EP X pins σ Q) X.xe s := by
  have r2 : Vals (vs ++ dvs) (us ++ ds) := r.append hd
  have hl : (us ++ ds).length = ps.length := by rw [← r2.length]; exact F.len _ _ _ _ h
  refine wpAny_call (codeAny_mono (F.run X.A X.stack s H ⟨us, []⟩ (us ++ ds) (vs ++ dvs) Q E hr I.env0 (hb s us I.kIn hl) r2 h) fun r s' hq => ?_)
  cases r with
  | error e => exact hx pins σ H s e s' I hq
  | ok fl =>
    cases fl with
    | ret u => exact I.after hq
    | next => exact False.elim hq
    | brk => exact False.elim hq
    | cont => exact False.elim hq

theorem pe_call (F : FnOk X.prog X.w X.K X.mg X.base CX k f fd ps sp) (hr : Room k X.A) (hg : Gl X x) (hm : X.mg x = some (.ref f)) (hk : PySem.W.keepIn X.K (.ref f) = true) (hb : Binds X.K fd ps ds) (hd : Vals dvs ds) (hx : Passes CX X E)
    (ha : PA X (e :: es) t) (hdb : (x == ("__debug__" : Str)) = false := by decide) (he : starEach (e :: es) X.env = (false, eval e X.env) :: starEach es X.env := by rfl) (hpl : (backTo pos (starEach es X.env)).any (·.1) = false := by rfl) :
    PE X (.Call (.Name x p) (e :: es) [] pos) (tCall sp dvs E t) := by
  intro pins s σ H Q I h
  refine wpAny_Call_Name_kw (ld_glob I hg hm ?_ hdb)
  refine PySem.W.callWith_K (h₀ := X.base) I.ok.mod.kin hk (thn (ha pos pins s σ H _ I h) fun us s1 ⟨vs, H1, I1, r, q⟩ => ⟨I1.kIn, ?_⟩) he hpl
  exact run_fn F hr hb hd hx I1 r q
/-- what a class must have to be made -/
structure Mk (K : PySem.W.Frag) (C f : Addr) : Prop where
  makes : PySem.W.makesIn K C = true
  init : PySem.W.findIn K (.ref C) "__init__" = some (some (.ref f))
  fn : PySem.W.isFn K (.ref f) = true
  kp : PySem.W.keepIn K (.ref C) = true

end

/-! ### keywords -/
/-- the values of the keywords, from the left -/
def PK (X : Cx) (kws : List Keyword) (t : TA) : Prop :=
  ∀ (pos : Pos) (pins : List (Addr × Obj)) (s : Shared) (σ : St) (H : Hp) (Q : List V → Hp → Prop), Inv X pins σ H s → t σ H Q → wpAny (model X.prog X.w) X.A (evalAll ((backToKw pos (keywordEach kws X.env)).map (·.2))) (AP X pins σ Q) X.xe s
section
variable {X : Cx} {CX : CXT} {k : Nat} {f C : Addr} {fd : FuncData} {ps ks : List Str} {sp : Sp} {E : XK} {x m : Str} {p pos apos kpos : Pos} {e o : Expr} {es : List Expr} {kws : List Keyword} {te ta : TE} {t tk : TA} {nm : Option Str}
/-- how a call with keywords binds: g puts the positional values us and the keywords' values ws (names ks) in the parameters' order, defaults among them -/
structure KBinds (K : PySem.W.Frag) (fd : FuncData) (ps ks : List Str) (g : List Value → List Value → List Value) (gV : List V → List V → List V) : Prop where
  to : ∀ (s : Shared) (us ws : List Value), K.In s.heap → (g us ws).length = ps.length → BindsTo s fd ⟨us, ks.zip ws⟩ (ps.zip (g us ws))
  rel : ∀ {vs : List V} {us : List Value} {zs : List V} {ws : List Value}, Vals vs us → Vals zs ws → Vals (gV vs zs) (g us ws)
def tCallK (sp : Sp) (gV : List V → List V → List V) (E : XK) (t tk : TA) : TE := fun σ H Q => t σ H fun vs H1 => tk σ H1 fun zs H2 => sp (gV vs zs) H2 Q E
variable {g : List Value → List Value → List Value} {gV : List V → List V → List V}
end

/-! ### a def's body keeps its promise -/
/-- names: the parameters first -/
structure FnScope (N P : List Str) (sc : Scope) : Prop where
  kind : sc.kind = .function
  co : sc.isCoroutine = false
  gen : sc.isGenerator = false
  nd : N.Nodup
  pre : N.take P.length = P
  par : ∀ x ∈ P, sc.names.lookup x = some .local ∨ sc.names.lookup x = some .cell
  nofree : ∀ y ∈ sc.names, y.2 ≠ .free

theorem bindL_out {kindOf : Str → Option NameKind} {x : Str} : ∀ {binds : List (Str × Value)} {m : Str → Option Value}, (∀ v, (x, v) ∉ binds) → bindL kindOf binds m x = m x
  | [], _, _ => rfl
  | (n, v) :: r, m, h => by
    unfold bindL
    rw [bindL_out fun w hw => h w (List.mem_cons_of_mem _ hw)]
    split
    · have : x ≠ n := by rintro rfl; exact h v List.mem_cons_self
      simp [this]
    · rfl
theorem bindC_out {kindOf : Str → Option NameKind} {x : Str} : ∀ {binds : List (Str × Value)} {m : Str → Option Value}, (∀ v, (x, v) ∉ binds) → bindC kindOf binds m x = m x
  | [], _, _ => rfl
  | (n, v) :: r, m, h => by
    unfold bindC
    rw [bindC_out fun w hw => h w (List.mem_cons_of_mem _ hw)]
    split
    · rfl
    · have : x ≠ n := by rintro rfl; exact h v List.mem_cons_self
      simp [this]
theorem bindL_get {kindOf : Str → Option NameKind} {x : Str} {v : Value} : ∀ {P : List Str} {vs : List Value} {i : Nat} {m : Str → Option Value}, P.Nodup → P[i]? = some x → vs[i]? = some v → kindOf x = some .local →
    bindL kindOf (P.zip vs) m x = some v
  | [], _, _, _, _, h, _, _ => by simp at h
  | _ :: _, [], _, _, _, _, h, _ => by simp at h
  | p :: P, w :: vs, 0, m, nd, h1, h2, hk => by
    simp at h1 h2; subst h1; subst h2
    show bindL kindOf ((p, w) :: P.zip vs) m p = _
    unfold bindL
    rw [bindL_out fun v hv => (List.nodup_cons.mp nd).1 (List.of_mem_zip hv).1, if_pos hk]
    simp
  | p :: P, w :: vs, i + 1, m, nd, h1, h2, hk => by
    show bindL kindOf ((p, w) :: P.zip vs) m x = _
    unfold bindL
    exact bindL_get (i := i) (List.nodup_cons.mp nd).2 (by simpa using h1) (by simpa using h2) hk
theorem bindC_get {kindOf : Str → Option NameKind} {x : Str} {v : Value} : ∀ {P : List Str} {vs : List Value} {i : Nat} {m : Str → Option Value}, P.Nodup → P[i]? = some x → vs[i]? = some v → kindOf x ≠ some .local →
    bindC kindOf (P.zip vs) m x = some v
  | [], _, _, _, _, h, _, _ => by simp at h
  | _ :: _, [], _, _, _, _, h, _ => by simp at h
  | p :: P, w :: vs, 0, m, nd, h1, h2, hk => by
    simp at h1 h2; subst h1; subst h2
    show bindC kindOf ((p, w) :: P.zip vs) m p = _
    unfold bindC
    rw [bindC_out fun v hv => (List.nodup_cons.mp nd).1 (List.of_mem_zip hv).1, if_neg hk]
    simp
  | p :: P, w :: vs, i + 1, m, nd, h1, h2, hk => by
    show bindC kindOf ((p, w) :: P.zip vs) m x = _
    unfold bindC
    exact bindC_get (i := i) (List.nodup_cons.mp nd).2 (by simpa using h1) (by simpa using h2) hk

/-- the names' values at the entry -/
def start (N : List Str) (vs : List V) : St := vs.map some ++ List.replicate (N.length - vs.length) none

/-- the context of a def's body, at its entry; an exception leaves the frame, then lies as CX says -/
def cxOf (CX : CXT) (P : Program) (w : World) (K : PySem.W.Frag) (mg : Str → Option Value) (base : Heap) (N : List Str) (qual : Str) (scope : Scope) (f : Addr) (cd : Value) (A : Around) (outer : List Env) (s : Shared) (H : Hp) (E : XK) : Cx where
  prog := P
  w := w
  K := K
  mg := mg
  base := base
  A := A.deeper (envOfC qual scope s.heap.objs.size f cd)
  N := N
  s₀ := s
  H₀ := H
  env := envOfC qual scope s.heap.objs.size f cd
  outer := outer
  stack := envOfC qual scope s.heap.objs.size f cd :: outer
  ex := []
  calm := true
  fn := fun _ => true
  pn := []
  xe := fun e s' => wpAny (model P w) (A.deeper (envOfC qual scope s.heap.objs.size f cd)) (leaving (envOfC qual scope s.heap.objs.size f cd) e) (fun _ s'' => CX outer H s E e s'') (fun e' s'' => CX outer H s E e' s'') s'

theorem cell_has {sc : Scope} {n : Nat} {x : Str} (h : sc.names.lookup x = some .cell) : ∃ c, (cellsFrom n sc.names []).lookup x = some c := by
  have q := PySem.W.cellsFrom_some sc.names n [] (.inl h)
  exact Option.isSome_iff_exists.mp q

theorem inv_start {CX : CXT} {P : Program} {w : World} {K : PySem.W.Frag} {mg : Str → Option Value} {base : Heap} {N ps : List Str} {qual : Str} {scope : Scope} {f : Addr} {cd : Value} {A : Around} {outer : List Env} {s s1 : Shared} {H : Hp} {E : XK} {us : List Value} {vs : List V}
    (S : FnScope N ps scope) (hd : A.handled = none) (e0 : Env0 P w K mg base A outer s H) (hl : vs.length = ps.length) (r : Vals vs us)
    (x : InCallC s s.heap.objs.size (bindL (envOfC qual scope s.heap.objs.size f cd).kindOf (ps.zip us) fun _ => none) (cellsFrom (s.heap.objs.size + 1) scope.names []) (bindC (envOfC qual scope s.heap.objs.size f cd).kindOf (ps.zip us) fun _ => none) s1) :
    Inv (cxOf CX P w K mg base N qual scope f cd A outer s H E) [] (start N vs) H s1 := by
  have hpl : ps.length ≤ N.length := by have := congrArg List.length S.pre; rw [List.length_take] at this; omega
  obtain ⟨h1, tk, rfl, hk⟩ := x.done
  have noA : ∀ b : Addr, b ∉ (cxOf CX P w K mg base N qual scope f cd A outer s H E).ex := fun b z => absurd (show b ∈ ([] : List Addr) from z) (by simp)
  refine ⟨⟨e0.mod, S.kind, rfl, rfl, Nat.le_refl _, fun y z c h1 h2 => ?_, fun y hy => ?_, fun y c _ h => ?_, fun _ => hd, Around.frames_deeper e0.frames, .inr ⟨rfl, rfl⟩, fun b z => absurd z (noA b), e0.bs, e0.bsz, fun b _ _ => noA b, fun b z => absurd z (noA b), e0.funs, e0.frf⟩,
    rfl, e0.bare, Un.kept hk, ⟨_, x.toInCall.ns, fun i y v h1 h2 h3 => ?_⟩, fun y c h => ⟨_, x.cell y c h⟩, e0.hok.fresh (Nat.le_refl _), fun y c h => ?_, fun p hp => absurd (show p ∈ ([] : List (Addr × Obj)) from hp) (by simp), e0.hok.kept hk, ?_⟩
  · exact name_of_addr x.apart (PySem.mem_of_lookup h1) (PySem.mem_of_lookup h2)
  · have hy : scope.names.lookup y = some .cell ∨ scope.names.lookup y = some .free := hy
    rcases hy with hy | hy
    · exact cell_has hy
    · exact absurd rfl (S.nofree _ (PySem.mem_of_lookup hy))
  · exact Nat.le_of_lt (x.above y c (PySem.mem_of_lookup h))
  · have hi : i < vs.length := by
      unfold start at h2
      by_cases hi : i < vs.length
      · exact hi
      · rw [List.getElem?_append_right (by simpa using hi)] at h2
        rw [List.getElem?_replicate] at h2
        split at h2 <;> cases h2
    have ha : vs[i]? = some v := by
      unfold start at h2
      rw [List.getElem?_append_left (by simpa using hi), List.getElem?_map] at h2
      cases e : vs[i]? with
      | none => rw [e] at h2; cases h2
      | some a => rw [e] at h2; cases h2; rfl
    obtain ⟨u, hu, rv⟩ := r.get ha
    have hp : ps[i]? = some y := by
      rw [← S.pre, List.getElem?_take_of_lt (by omega)]; exact h1
    have ndP : ps.Nodup := by rw [← S.pre]; exact S.nd.sublist (List.take_sublist _ _)
    refine ⟨u, rv, ?_⟩
    rcases S.par y (List.mem_of_getElem? hp) with k | k
    · exact .inl ⟨k, bindL_get ndP hp hu k⟩
    · obtain ⟨c, e⟩ := cell_has (n := s.heap.objs.size + 1) k
      refine .inr ⟨.inl k, c, e, ?_⟩
      have q := x.cell y c e
      rw [bindC_get ndP hp hu (by show scope.names.lookup y ≠ _; rw [k]; decide)] at q
      exact q
  · exact e0.hok.fresh (Nat.le_of_lt (x.above y c (PySem.mem_of_lookup h)))
  · unfold start
    show _ = N.length
    rw [List.length_append, List.length_map, List.length_replicate]
    omega

/-- THE RULE: a def (or a method) of the text, by its body. The body's reading t is chosen for each entry; it is run at the parameters' values -/
theorem fn_of {CX : CXT} {P : Program} {w : World} {K : PySem.W.Frag} {mg : Str → Option Value} {base : Heap} {k : Nat} {f : Addr} {name qual : Str} {params : Arguments} {body : List Stmt} {scope : Scope} {dV kV doc pm cdv ct oc : Value} {an od : Option Addr}
    {osl : Array (Option Value)} {N ps : List Str} {sp : Sp} (lk : K.lookup f = some ⟨oc, od, .func (PySem.W.fnOf name qual params body scope dV kV doc pm an cdv ct), osl⟩) (hcd : PySem.W.codeIn K cdv qual = true) (S : FnScope N ps scope)
    (len : ∀ vs H Q E, sp vs H Q E → vs.length = ps.length)
    (hbody : ∀ (A : Around) (outer : List Env) (s : Shared) (H : Hp) (vs : List V) (Q : VK) (E : XK), Room k (A.deeper (envOfC qual scope s.heap.objs.size f cdv)) → sp vs H Q E →
      ∃ t, PSs (cxOf CX P w K mg base N qual scope f cdv A outer s H E) body t ∧ t { nx := fun _ H' => Q .non H', rt := Q } (start N vs) H) :
    FnOk P w K mg base CX (k + 1) f (PySem.W.fnOf name qual params body scope dV kV doc pm an cdv ct) ps sp := by
  refine ⟨len, fun A outer s H args us vs Q E hr e0 hb r hsp => ?_⟩
  have hl := len _ _ _ _ hsp
  have KX : K.In s.heap := e0.mod.kin.keeps fun b o e => (e0.bs b o e).1
  have lim : s.heap.NoLimit := e0.mod.nolimit.keeps fun b o e => (e0.bs b o e).1
  have hkind : ∀ y ∈ ps.zip us, scope.names.lookup y.1 = some .local ∨ (scope.names.lookup y.1 = some .cell ∧ ((cellsFrom (s.heap.objs.size + 1) scope.names []).lookup y.1).isSome = true) := fun ⟨n, v⟩ hy => by
    rcases S.par n (List.of_mem_zip hy).1 with q | q
    · exact .inl q
    · exact .inr ⟨q, PySem.W.cellsFrom_some _ _ _ (.inl q)⟩
  refine codeAny_call_function hr.depth (KX _ _ lk) rfl S.co S.gen rfl (PySem.W.codeRec_of KX hcd) (hb _ _ _ _ ?_)
  refine wpAny_newFunctionEnv_cells S.kind hkind fun env he s1 x => ?_
  subst he
  refine ⟨lim.keeps x.toInCall.keep, codeAny_func ?_⟩
  obtain ⟨t, ht, hq⟩ := hbody A outer s H vs Q E (hr.deeper _) hsp
  have I : Inv (cxOf CX P w K mg base N qual scope f cdv A outer s H E) [] (start N vs) H s1 := inv_start S hr.hd e0 hl r x
  refine wpAny_mono (ht [] s1 (start N vs) H _ I hq) (fun fl s' hs => ?_) fun e s' hs => hs
  have fin : ∀ {σ' : St} {H' : Hp} {v : V} {u : Value}, Inv (cxOf CX P w K mg base N qual scope f cdv A outer s H E) [] σ' H' s' → RelV v u → Q v H' → CE outer P w H s Q u s' :=
    fun {σ' H' v u} J rv q => ⟨v, H', J.os, J.bare, J.base, J.hok, rv, q⟩
  cases fl with
  | ret u =>
    obtain ⟨v, σ', H', J, rv, q⟩ := hs
    exact fin J rv q
  | next =>
    obtain ⟨σ', H', J, q⟩ := hs
    exact fin (v := V.non) (u := Value.none) J rfl q
  | brk =>
    obtain ⟨_, _, _, q⟩ := hs
    exact False.elim q
  | cont =>
    obtain ⟨_, _, _, q⟩ := hs
    exact False.elim q
end L2

namespace L2
open PySem PySem.Spec PyProof.Rows
section
variable {X : Cx} {x : Str} {p pos : Pos} {e : Expr} {es : List Expr} {t : TA} {id T : String} {r : List V → Hp → VK → Prop}

def tCB (r : List V → Hp → VK → Prop) (t : TA) : TE := fun σ H Q => t σ H fun vs H1 => r vs H1 Q
/-- f(e, ..), f a built-in function -/
theorem pe_callB (hc : CallR X (.builtin id) r) (hg : Gl X x) (hm : X.mg x = none) (hv : bootBuiltins x = some (.builtin id)) (ha : PA X (e :: es) t) (hn : x ≠ "__name__" := by decide) (hdb : (x == ("__debug__" : Str)) = false := by decide)
    (he : starEach (e :: es) X.env = (false, eval e X.env) :: starEach es X.env := by rfl) (hpl : (backTo pos (starEach es X.env)).any (·.1) = false := by rfl) : PE X (.Call (.Name x p) (e :: es) [] pos) (tCB r t) := by
  intro pins s σ H Q I h
  refine wpAny_Call_Name_kw (ld_blt I hg hm hv ?_ hn hdb)
  exact PyProof.Rows.callWith_builtin1 (thn (ha pos pins s σ H _ I h) fun us s1 ⟨vs, H1, I1, r1, q1⟩ => hc pins s1 σ H1 vs us Q I1 r1 q1) he hpl
/-- T(e, ..), T a built-in type -/
theorem pe_callTy (hc : CallR X (.type T) r) (hg : Gl X x) (hm : X.mg x = none) (hv : bootBuiltins x = some (.type T)) (ha : PA X (e :: es) t) (hn : x ≠ "__name__" := by decide) (hdb : (x == ("__debug__" : Str)) = false := by decide)
    (he : starEach (e :: es) X.env = (false, eval e X.env) :: starEach es X.env := by rfl) (hpl : (backTo pos (starEach es X.env)).any (·.1) = false := by rfl) : PE X (.Call (.Name x p) (e :: es) [] pos) (tCB r t) := by
  intro pins s σ H Q I h
  refine wpAny_Call_Name_kw (ld_blt I hg hm hv ?_ hn hdb)
  exact PyProof.Rows.callWith_type1 (thn (ha pos pins s σ H _ I h) fun us s1 ⟨vs, H1, I1, r1, q1⟩ => hc pins s1 σ H1 vs us Q I1 r1 q1) he hpl
end
end L2

namespace L2
open PySem PySem.Spec PyProof.Rows

/-! ### lists of pairs as tables -/
section
variable {κ : Type} [DecidableEq κ]
def valV (kvs : List (κ × V)) (k : κ) : Option V := (kvs.find? fun kv => decide (kv.1 = k)).map (·.2)
/-- in its place, or at the end -/
def putK (kvs : List (κ × V)) (k : κ) (v : V) : List (κ × V) :=
  if (kvs.any fun kv => decide (kv.1 = k)) = true then kvs.map (fun kv => if kv.1 = k then (kv.1, v) else kv) else kvs ++ [(k, v)]
def dropK (kvs : List (κ × V)) (k : κ) : List (κ × V) := kvs.filter fun kv => decide (kv.1 ≠ k)

end


/-! ### a tracked dict, its keys ints and texts or tuples of these -/
/-- raw entries of a dict with tuple keys -/
abbrev KT (H : Hp) : List (List Key × V) → List (List Key × Addr × Value) → Prop := Paired fun p q => p.1 = q.1 ∧ H q.2.1 = some (.tup (p.1.map kV)) ∧ RelV p.2 q.2.2
section
variable {P : Program} {w : World} {H : Hp} {h : Heap} {a : Addr}
end

/-- what the dict at a holds at the key y -/
def DGet (H : Hp) (a : Addr) (y : V) (r : Option V) : Prop :=
  (∃ kvs k, Rd H a (.dK kvs) ∧ y = kV k ∧ r = valV kvs k) ∨ ∃ kvs k b, Rd H a (.dT kvs) ∧ y = .ref b ∧ H b = some (.tup (k.map kV)) ∧ r = valV kvs k
/-- the heap behind a[y] = v -/
def DPut (H : Hp) (a : Addr) (y v : V) (H' : Hp) : Prop :=
  (∃ kvs k, H a = some (.dK kvs) ∧ y = kV k ∧ kvs.length < sizeLine ∧ H' = upd H a (.dK (putK kvs k v))) ∨
  ∃ kvs k b, H a = some (.dT kvs) ∧ y = .ref b ∧ H b = some (.tup (k.map kV)) ∧ kvs.length < sizeLine ∧ H' = upd H a (.dT (putK kvs k v))
section
variable {X : Cx} {pins : List (Addr × Obj)} {σ : St} {H : Hp} {s : Shared} {a : Addr} {y v : V} {u r : Value} {o : Option V} {A : Around} {E : Value → Shared → Prop}

end

section
variable {X : Cx} {pins : List (Addr × Obj)} {σ : St} {H : Hp} {s : Shared} {a : Addr} {kvs : List (Key × V)} {k : Key} {u : Value} {A : Around} {E : Value → Shared → Prop}
end


/-! ### readings and rules -/
/-- the element of a subscription, not a slice -/
def NoSl (i : Expr) : Prop := ∀ ov iv, subscripted i false ov iv = operate [ov, iv] (getItem ov iv)
/-- d[y] -/
def tDGet (td ty : TE) : TE := fun σ H Q => td σ H fun x H1 => ty σ H1 fun y H2 => ∃ a v, x = .ref a ∧ DGet H2 a y (some v) ∧ Q v H2
/-- y in d, y not in d -/
def tDIn (ty td : TE) : TE := fun σ H Q => ty σ H fun y H1 => td σ H1 fun x H2 => ∃ a o, x = .ref a ∧ DGet H2 a y o ∧ Q (.bl o.isSome) H2
def tDNotIn (ty td : TE) : TE := fun σ H Q => ty σ H fun y H1 => td σ H1 fun x H2 => ∃ a o, x = .ref a ∧ DGet H2 a y o ∧ Q (.bl (!o.isSome)) H2
/-- d[y] = v -/
def sDPut (td ty tv : TE) : TS := fun D σ H => tv σ H fun v H1 => td σ H1 fun x H2 => ty σ H2 fun y H3 => ∃ a H4, x = .ref a ∧ DPut H3 a y v H4 ∧ D.nx σ H4
/-- d[y] op= v -/
def sDAug (td ty tv : TE) (rd : V → V → Hp → VK → Prop) : TS := fun D σ H => td σ H fun x H1 => ty σ H1 fun y H2 => ∃ a v, x = .ref a ∧ DGet H2 a y (some v) ∧
  tv σ H2 fun y2 H3 => rd v y2 H3 fun z H4 => ∃ H5, DPut H4 a y z H5 ∧ D.nx σ H5
/-- del d[y] -/
def sDDel (td ty : TE) : TS := fun D σ H => td σ H fun x H1 => ty σ H1 fun y H2 => ∃ a kvs k, x = .ref a ∧ H2 a = some (.dK kvs) ∧ y = kV k ∧ (valV kvs k).isSome = true ∧ D.nx σ (upd H2 a (.dK (dropK kvs k)))

section
variable {X : Cx} {o i e value : Expr} {pos pos' tpos : Pos} {td ty tv : TE}
end


/-! ### displays -/
/-- {}, to be a dict of the kind that is wanted -/
def tDNewK : TE := fun _ H Q => ∀ p, H p = none → Q (.ref p) (upd H p (.dK []))
def tDNewT : TE := fun _ H Q => ∀ p, H p = none → Q (.ref p) (upd H p (.dT []))
section
variable {X : Cx} {pos : Pos}
end

/-- the pairs of a display, from the left -/
def tPairs : List (TE × TE) → St → Hp → (List (V × V) → Hp → Prop) → Prop
  | [], _, H, Q => Q [] H
  | (tk, tv) :: r, σ, H, Q => tk σ H fun x H1 => tv σ H1 fun y H2 => tPairs r σ H2 fun ps H3 => Q ((x, y) :: ps) H3
abbrev VV : List (V × V) → List (Value × Value) → Prop := Paired fun p q => RelV p.1 q.1 ∧ RelV p.2 q.2
def PPs (X : Cx) (pos : Pos) (keys : List (Option Expr)) (values : List Expr) (trs : List (TE × TE)) : Prop :=
  ∀ (pins : List (Addr × Obj)) (s : Shared) (σ : St) (H : Hp) (Q : List (V × V) → Hp → Prop), Inv X pins σ H s → tPairs trs σ H Q →
    wpAny (model X.prog X.w) X.A (evalPairs (pairTrees keys values X.env pos)) (fun vs s' => ∃ ps H', Inv X pins σ H' s' ∧ VV ps vs ∧ Q ps H') X.xe s
def mergeK (kvs more : List (Key × V)) : List (Key × V) := more.foldl (fun acc kv => putK acc kv.1 kv.2) kvs
/-- {k: v, ..} with keys ints and texts; the new dict stands empty while the pairs are made -/
def tDisp (trs : List (TE × TE)) : TE := fun σ H Q => ∀ p, H p = none → tPairs trs σ (upd H p (.dK [])) fun ps H2 => H2 p = some (.dK []) ∧ ∃ kvs : List (Key × V), ps = kvs.map (fun kv => (kV kv.1, kv.2)) ∧ kvs.length ≤ 15 ∧ Q (.ref p) (upd H2 p (.dK (mergeK [] kvs)))
/-! ### methods -/
/-- a method call o.m(e) of a built-in, with one argument: what must be seen of the text -/
structure M1 (X : Cx) (o : Expr) (m : Str) (apos : Pos) (e : Expr) (cpos : Pos) : Prop where
  base : attributeBase o m X.env (eval o X.env) = eval o X.env
  few : ((backTo cpos (starEach [e] X.env)).all (fun x => !x.1) && (backToKw cpos (keywordEach [] X.env)).all (fun x => x.1.isSome)
    && decide (([e] : List Expr).length + ([] : List Keyword).length + (if ([] : List Keyword).isEmpty then 0 else 1) < 30)) = true
  line : (apos.endLine == cpos.line) = true
  trees : backTo cpos (starEach [e] X.env) = [(false, eval e X.env)]
structure M2 (X : Cx) (o : Expr) (m : Str) (apos : Pos) (e f : Expr) (cpos : Pos) : Prop where
  base : attributeBase o m X.env (eval o X.env) = eval o X.env
  few : ((backTo cpos (starEach [e, f] X.env)).all (fun x => !x.1) && (backToKw cpos (keywordEach [] X.env)).all (fun x => x.1.isSome)
    && decide (([e, f] : List Expr).length + ([] : List Keyword).length + (if ([] : List Keyword).isEmpty then 0 else 1) < 30)) = true
  line : (apos.endLine == cpos.line) = true
  trees : backTo cpos (starEach [e, f] X.env) = [(false, eval e X.env), (false, eval f X.env)]

/-- a is a dict, whatever its keys -/
def IsD (H : Hp) (a : Addr) : Prop := (∃ kvs, Rd H a (.dK kvs)) ∨ ∃ kvs, Rd H a (.dT kvs)
section
variable {X : Cx} {pins : List (Addr × Obj)} {σ : St} {H : Hp} {s : Shared} {a : Addr} {y d : V} {u r : Value} {o : Option V} {A : Around} {E : Value → Shared → Prop}
end

def tDGet1 (td ty : TE) : TE := fun σ H Q => td σ H fun x H1 => ∃ a, x = .ref a ∧ IsD H1 a ∧ ty σ H1 fun y H2 => ∃ o, DGet H2 a y o ∧ Q (o.getD .non) H2
def tDGet2 (td ty tx : TE) : TE := fun σ H Q => td σ H fun x H1 => ∃ a, x = .ref a ∧ IsD H1 a ∧ ty σ H1 fun y H2 => tx σ H2 fun z H3 => ∃ o, DGet H3 a y o ∧ Q (o.getD z) H3
/-- d.pop(k): there; d.pop(k, x): there or not -/
def tDPop1 (td ty : TE) : TE := fun σ H Q => td σ H fun x H1 => ∃ a, x = .ref a ∧ IsD H1 a ∧ ty σ H1 fun y H2 => ∃ kvs k v, H2 a = some (.dK kvs) ∧ y = kV k ∧ valV kvs k = some v ∧ Q v (upd H2 a (.dK (dropK kvs k)))
def tDPop2 (td ty tx : TE) : TE := fun σ H Q => td σ H fun x H1 => ∃ a, x = .ref a ∧ IsD H1 a ∧ ty σ H1 fun y H2 => tx σ H2 fun z H3 => ∃ kvs k, H3 a = some (.dK kvs) ∧ y = kV k ∧
  (∀ v, valV kvs k = some v → Q v (upd H3 a (.dK (dropK kvs k)))) ∧ (valV kvs k = none → Q z H3)
section
variable {X : Cx} {o e f : Expr} {apos cpos : Pos} {td ty tx : TE}
end

/-! ### dict(d): a copy -/
section
variable {X : Cx} {pins : List (Addr × Obj)} {σ : St} {H : Hp} {s : Shared} {a : Addr} {kvs : List (Key × V)} {A : Around} {E : Value → Shared → Prop}
end


section
variable {X : Cx} {pins : List (Addr × Obj)} {σ : St} {H : Hp} {s : Shared} {a : Addr} {y : V} {u : Value} {A : Around} {E : Value → Shared → Prop}
end
end L2

namespace HT
open PySem PyProof.Rows

/-- t < u of tuples of ints -/
def lexLt : List Int → List Int → Bool
  | [], [] => false
  | [], _ :: _ => true
  | _ :: _, [] => false
  | x :: xs, y :: ys => if x = y then lexLt xs ys else decide (x < y)
section
open PySem.SeqAt
open PySem.AutoSeq1 (wpAny_loadPart')
open PySem.MeetsSeq PySem.MeetsSeq2 PySem.MeetsSeq3

end

section
variable {prog : Program} {w : World} {A : Around} {E : Value → Shared → Prop} {s : Shared}

/-- t + u, t not empty -/
theorem cat_tup {t b : Addr} {vs ws : List Value} {Q : Value → Shared → Prop} (ht : IsTup s.heap t vs.toArray) (hb : IsTup s.heap b ws.toArray) (hv : vs ≠ [])
    (h1 : ws = [] → Q (.ref t) s) (h2 : ws ≠ [] → Q (.ref s.heap.objs.size) { s with heap := s.heap.push { cls := .type "tuple", data := .seq (vs ++ ws).toArray } })
    (hsz : vs.length + ws.length ≤ sizeLine) : wpAny (model prog w) A (binaryOp .Add (.ref t) (.ref b)) Q E s := by
  obtain ⟨⟨cls, dd, data, sl⟩, ho, hc, n, hd⟩ := id ht
  obtain ⟨⟨cls2, dd2, data2, sl2⟩, ho2, hc2, n2, hd2⟩ := id hb
  simp only at hc hd hc2 hd2
  subst hc hd hc2 hd2
  have e : vs.toArray ++ ws.toArray = (vs ++ ws).toArray := by simp
  by_cases hw : ws = []
  · exact concat_meets ⟨_, ho, rfl⟩ ⟨_, ho2, rfl⟩ noFill_tuple_add seq_tuple_add PySem.F.slot_tuple_add PySem.F.entry_tuple_add (PySem.F.args_tuple_add_2 _ _)
      (tuple_addW1 t b vs.toArray ws.toArray n n2 dd dd2 sl sl2 (by simpa using hv) (by simp [hw])) ⟨ho, ho2, h1 hw⟩
  · refine concat_meets ⟨_, ho, rfl⟩ ⟨_, ho2, rfl⟩ noFill_tuple_add seq_tuple_add PySem.F.slot_tuple_add PySem.F.entry_tuple_add (PySem.F.args_tuple_add_2 _ _)
      (tuple_addW2 t b vs.toArray ws.toArray n n2 dd dd2 sl sl2 (by simpa using hv) (by simpa using hw) (by rw [List.size_toArray, List.size_toArray]; exact hsz)) ⟨ho, ho2, ?_⟩
    rw [e]
    exact h2 hw

/-! ### t[a:b], not the whole -/
/-- a slice's bound as a place among n (d where it is left out) -/
def sIx (n d : Nat) : Option Int → Nat
  | none => d
  | some v => if v < 0 then (v + (n : Int)).toNat else min v.toNat n
theorem sIx_none (n d : Nat) : sIx n d none = d := rfl
theorem sIx_nat (n d k : Nat) : sIx n d (some (k : Int)) = min k n := by
  show (if (k : Int) < 0 then ((k : Int) + (n : Int)).toNat else min (k : Int).toNat n) = min k n
  rw [if_neg (by omega), Int.toNat_natCast]
theorem sIx_le (n d : Nat) (hd : d ≤ n) (o : Option Int) : sIx n d o ≤ n := by
  cases o with
  | none => exact hd
  | some v =>
    show (if v < 0 then (v + (n : Int)).toNat else min v.toNat n) ≤ n
    by_cases hv : v < 0
    · rw [if_pos hv]; omega
    · rw [if_neg hv]; exact Nat.min_le_right _ _
theorem clip_eq (v : Int) (n d : Nat) : (if v < 0 then max (v + (n : Int)) 0 else min v (n : Int)) = ((sIx n d (some v) : Nat) : Int) := by
  show (if v < 0 then max (v + (n : Int)) 0 else min v (n : Int)) = (((if v < 0 then (v + (n : Int)).toNat else min v.toNat n) : Nat) : Int)
  by_cases hv : v < 0
  · simp only [if_pos hv]; omega
  · simp only [if_neg hv]; omega
theorem adjust_gen (lo hi : Option Int) (n : Nat) : Builtin.Slice.sliceAdjust lo hi 1 (n : Int) = (((sIx n 0 lo : Nat) : Int), ((sIx n n hi : Nat) : Int)) := by
  have h1 : ¬ ((1 : Int) < 0) := by omega
  unfold Builtin.Slice.sliceAdjust
  simp only [h1, if_false]
  refine Prod.ext ?_ ?_
  · cases lo with
    | none => rfl
    | some v => exact clip_eq v n 0
  · cases hi with
    | none => rfl
    | some v => exact clip_eq v n n
theorem places_gen (i j : Nat) : Builtin.Slice.slicePlaces (i : Int) (j : Int) 1 = j - i := by
  unfold Builtin.Slice.slicePlaces
  have h1 : (1 : Int) > 0 := by omega
  simp only [h1, if_true, Int.ediv_one]
  split <;> omega
theorem slicePart_ {v : Value} {o : Option Int} {Q : Option Int → Shared → Prop} (p : IsPart v o) (h : Q o s) : wpAny (model prog w) A (Builtin.Slice.slicePartIndex v) Q E s := by
  cases p with
  | none => exact slicePart_none h
  | int i t => exact slicePart_int h
theorem sliceApplied_gen {sl : Addr} {vl vu : Value} {lo hi : Option Int} {n : Nat} {Q : Int × Int × Nat → Shared → Prop} (hs : s.heap.IsSliceOf sl vl vu .none) (pl : IsPart vl lo) (pu : IsPart vu hi)
    (h : Q (((sIx n 0 lo : Nat) : Int), 1, sIx n n hi - sIx n 0 lo) s) : wpAny (model prog w) A (Builtin.Slice.sliceApplied (.ref sl) (pure (n : Int))) Q E s := by
  obtain ⟨os, hos, hcs, hds⟩ := id hs
  unfold Builtin.Slice.sliceApplied Builtin.Slice.sliceFields
  refine wpAny_bind (wpAny_bind (wpAny_field hos hds (x := vl) rfl (wpAny_bind (wpAny_field hos hds (x := vu) rfl (wpAny_bind (wpAny_field hos hds (x := .none) rfl (wpAny_pure ?_)))))))
  refine wpAny_bind (slicePart_none ?_)
  show wpAny _ _ (if ((1 : Int) == 0) = true then _ else _) _ _ s
  rw [if_neg (by decide)]
  refine wpAny_bind (slicePart_ pl (wpAny_bind (slicePart_ pu (wpAny_bind (wpAny_pure ?_)))))
  show wpAny _ _ (match Builtin.Slice.sliceAdjust lo hi 1 (n : Int) with | (lo, hi) => pure (lo, (1 : Int), Builtin.Slice.slicePlaces lo hi 1)) _ _ s
  rw [adjust_gen lo hi n]
  show wpAny _ _ (pure (((sIx n 0 lo : Nat) : Int), (1 : Int), Builtin.Slice.slicePlaces ((sIx n 0 lo : Nat) : Int) ((sIx n n hi : Nat) : Int) 1)) _ _ s
  rw [places_gen]
  exact wpAny_pure h
theorem pick_gen (xs : Array Value) (i k : Nat) : ((List.range k).filterMap fun (m : Nat) => xs[((i : Int) + (m : Int) * 1).toNat]?).toArray = ((xs.toList.drop i).take k).toArray := by
  have e : (fun (m : Nat) => xs[((i : Int) + (m : Int) * 1).toNat]?) = fun m => xs[i + m]? := by
    funext m
    have : ((i : Int) + (m : Int) * 1).toNat = i + m := by omega
    rw [this]
  rw [e]
  have := pick_run xs i k
  rw [List.filterMap_map] at this
  have e2 : ((fun x => xs[x]?) ∘ fun x => i + x) = fun m => xs[i + m]? := rfl
  rw [e2] at this
  rw [this]

theorem getItem_tuple_cut {t sl : Addr} {items : Array Value} {vl vu : Value} {lo hi : Option Int} {Q : Value → Shared → Prop} (ht : IsTup s.heap t items) (hs : s.heap.IsSliceOf sl vl vu .none) (pl : IsPart vl lo) (pu : IsPart vu hi)
    (hw : ¬ (sIx items.size 0 lo = 0 ∧ sIx items.size items.size hi = items.size))
    (h : Q (.ref s.heap.objs.size) { s with heap := s.heap.push { cls := .type "tuple", data := .seq ((items.toList.drop (sIx items.size 0 lo)).take (sIx items.size items.size hi - sIx items.size 0 lo)).toArray } })
    (hsz : items.size ≤ sizeLine) : wpAny (model prog w) A (getItem (.ref t) (.ref sl)) Q E s := by
  have htake : sizeOk (.seq ((items.toList.drop (sIx items.size 0 lo)).take (sIx items.size items.size hi - sIx items.size 0 lo)).toArray) := by
    show ((items.toList.drop (sIx items.size 0 lo)).take (sIx items.size items.size hi - sIx items.size 0 lo)).toArray.size ≤ sizeLine
    rw [List.size_toArray, List.length_take, List.length_drop, Array.length_toList]
    omega
  have hj : sIx items.size items.size hi ≤ items.size := sIx_le _ _ (Nat.le_refl _) hi
  obtain ⟨os, hos, hcs, hds⟩ := id hs
  have hTs : s.TypeIs (.ref sl) "slice" := ⟨os, hos, hcs⟩
  unfold getItem
  try with_reducible refine wpAny_holding ?_
  first | refine wpAny_bind (wpAny_pure ?_) | skip
  refine wpAny_bind (wpAny_sequenceKey ht.typeIs (by decide) ?_)
  refine wpAny_bind (wpAny_callSpecial?_slot (name := Str.ofString "__getitem__") ht.typeIs PyProof.Rows.slot_tuple_getitem
    (wpAny_call_entry PyProof.Rows.slot_tuple_getitem ht.typeIs entry_tuple_getitem ?_ (args_tuple_getitem _ _)))
  show wpAny _ _ (Builtin.Tuple.tupleItemsOf (.ref t) >>= _) _ _ s
  refine wpAny_bind (tupleItemsOf_ ht ?_)
  refine wpAny_bind (wpAny_typeOf hTs ?_)
  rw [if_pos (by decide)]
  refine wpAny_bind (sliceApplied_gen hs pl pu ?_)
  have hno : ¬ ((((sIx items.size 0 lo : Nat) : Int) == 0 && (1 : Int) == 1 && (sIx items.size items.size hi - sIx items.size 0 lo) == items.size) = true) := by
    intro q
    rw [Bool.and_eq_true, Bool.and_eq_true] at q
    have q1 : ((sIx items.size 0 lo : Nat) : Int) = 0 := eq_of_beq q.1.1
    have q2 : sIx items.size items.size hi - sIx items.size 0 lo = items.size := eq_of_beq q.2
    exact hw ⟨by omega, by omega⟩
  show wpAny _ _ (if (((sIx items.size 0 lo : Nat) : Int) == 0 && (1 : Int) == 1 && (sIx items.size items.size hi - sIx items.size 0 lo) == items.size) = true then _ else _) _ _ s
  rw [if_neg hno, pick_gen]
  first
    | exact wpAny_bind (m := Builtin.Tuple.tupleExact _) (wpAny_newObj_type (wpAny_pure ⟨_, rfl, wpAny_pure h⟩) htake)
    | exact wpAny_bind (m := Builtin.Tuple.tupleExact _) (wpAny_newObj_type (wpAny_bind (wpAny_pure (wpAny_pure ⟨_, rfl, wpAny_pure h⟩))) htake)
    | exact wpAny_bind (wpAny_bind (m := Builtin.Tuple.tupleExact _) (wpAny_newObj_type (wpAny_pure (wpAny_pure ⟨_, rfl, wpAny_pure h⟩)) htake))
    | exact wpAny_bind (wpAny_bind (m := Builtin.Tuple.tupleExact _) (wpAny_newObj_type (wpAny_pure ⟨_, rfl, wpAny_pure h⟩) htake))
end
end HT

namespace L2
open PySem PySem.Spec PyProof.Rows

/-! ### the parts of a slice -/
abbrev TO := St → Hp → (Option Int → Hp → Prop) → Prop
/-- a slice's part (left out, or an int) -/
def PO (X : Cx) (e : Option Expr) (t : TO) : Prop :=
  ∀ (pins : List (Addr × Obj)) (s : Shared) (σ : St) (H : Hp) (Q : Option Int → Hp → Prop), Inv X pins σ H s → t σ H Q →
    wpAny (model X.prog X.w) X.A (evalPart e X.env) (fun u s' => ∃ o H', Inv X pins σ H' s' ∧ IsPart u o ∧ Q o H') X.xe s
def tNoPart : TO := fun _ H Q => Q none H
def tPart (t : TE) : TO := fun σ H Q => t σ H fun x H1 => ∃ i, x = .int i ∧ Q (some i) H1

theorem intsAre_of {ns : List Int} : ∀ {us : List Value}, Vals (ns.map V.int) us → IntsAre us ns := by
  induction ns with
  | nil => intro us r; rw [List.map_nil] at r; cases r; exact .nil
  | cons n ns ih =>
    intro us r
    rw [List.map_cons] at r
    cases r with
    | cons r1 r2 =>
      obtain ⟨t, e⟩ := r1
      subst e
      exact .cons n t (ih r2)

section
variable {X : Cx} {e : Expr} {te : TE} {lo hi : Option Expr} {tl th : TO} {pos p2 : Pos}

theorem po_none : PO X none tNoPart := by
  intro pins s σ H Q I h
  rw [evalPart_none]
  exact wpAny_pure ⟨none, H, I, .none, h⟩
theorem po_some (h : PE X e te) : PO X (some e) (tPart te) := by
  intro pins s σ H Q I hw
  rw [evalPart_some]
  refine thn (h pins s σ H _ I hw) fun u s1 ⟨x, H1, I1, r1, q1⟩ => ?_
  obtain ⟨i, rfl, q⟩ := q1
  obtain ⟨t, rfl⟩ := r1
  exact ⟨some i, H1, I1, .int i t, q⟩

/-- what a slice of a value is, by values: the slice object stands at sl -/
def SlR (X : Cx) (r : V → Option Int → Option Int → Hp → VK → Prop) : Prop :=
  ∀ (pins : List (Addr × Obj)) (s : Shared) (σ : St) (H : Hp) (x : V) (v vl vu : Value) (lo hi : Option Int) (sl : Addr) (Q : VK), Inv X pins σ H s → RelV x v → s.heap.IsSliceOf sl vl vu .none → IsPart vl lo → IsPart vu hi → r x lo hi H Q →
    ∃ T id, typeLookup (.type T) "__getitem__" = pure (some (.builtin id)) ∧ s.TypeIs v T ∧ wpAny (model X.prog X.w) X.A (getItem v (.ref sl)) (EP X pins σ Q) X.xe s
def tSl (r : V → Option Int → Option Int → Hp → VK → Prop) (te : TE) (tl th : TO) : TE := fun σ H Q => te σ H fun x H1 => tl σ H1 fun l H2 => th σ H2 fun u H3 => r x l u H3 Q
/-- a[lo:hi], any a -/
theorem pe_slice {r : V → Option Int → Option Int → Hp → VK → Prop} (hr : SlR X r) (he : PE X e te) (hl : PO X lo tl) (hu : PO X hi th) : PE X (.Subscript e (.Slice lo hi none p2) pos) (tSl r te tl th) := by
  intro pins s σ H Q I h
  refine Subscript_ (thn (he pins s σ H _ I h) fun v s1 ⟨x, H1, I1, r1, q1⟩ => ?_)
  refine wpAny_Slice (thn (hl pins s1 σ H1 _ I1 q1) fun vl s2 ⟨l, H2, I2, pl, q2⟩ => thn (hu pins s2 σ H2 _ I2 q2) fun vu s3 ⟨u, H3, I3, pu, q3⟩ => ?_)
  rw [evalPart_none]
  refine wpAny_pure ?_
  have I4 : Inv X pins σ H3 { s3 with heap := s3.heap.push { cls := .type "slice", data := .fields #[vl, vu, .none] } } := I3.kept (t' := s3.toks) fun b ob q => Heap.get?_push_of_some _ q
  obtain ⟨T, id, hT, ht, hg⟩ := hr pins { s3 with heap := s3.heap.push { cls := .type "slice", data := .fields #[vl, vu, .none] } } σ H3 x v vl vu l u s3.heap.objs.size Q I4 r1 (Heap.IsSliceOf.new ..) pl pu q3
  show wpAny (model X.prog X.w) X.A (subscriptTail e (.Slice lo hi none p2) v (.ref s3.heap.objs.size)) (EP X pins σ Q) X.xe { s3 with heap := s3.heap.push { cls := .type "slice", data := .fields #[vl, vu, .none] } }
  exact tail_any (ops := [.ref s3.heap.objs.size, v]) ht hT hg (by with_unfolding_all rfl)

/-- the items of xs[lo:hi] -/
def cutV (xs : List V) (lo hi : Option Int) : List V := (xs.drop (HT.sIx xs.length 0 lo)).take (HT.sIx xs.length xs.length hi - HT.sIx xs.length 0 lo)
theorem cutV_length (xs : List V) (lo hi : Option Int) : (cutV xs lo hi).length ≤ xs.length := by
  unfold cutV
  rw [List.length_take, List.length_drop]
  omega
/-- t[lo:hi], not the whole of it (the whole would be t itself) -/
def rSlT (K : PySem.W.Frag) : V → Option Int → Option Int → Hp → VK → Prop := fun x lo hi H Q => ∃ a xs, x = .ref a ∧ SqT K H a xs ∧
  ¬ (HT.sIx xs.length 0 lo = 0 ∧ HT.sIx xs.length xs.length hi = xs.length) ∧ ∀ p, H p = none → Q (.ref p) (upd H p (.tup (cutV xs lo hi)))
theorem sl_tup : SlR X (rSlT X.K) := by
  intro pins s σ H x v vl vu lo hi sl Q I rx hs pl pu h
  obtain ⟨a, xs, rfl, hx, hw, q⟩ := h
  cases rx
  obtain ⟨its, r, ht, hz⟩ := I.tuple hx
  have hlen : its.toArray.size = xs.length := by rw [List.size_toArray]; exact r.length.symm
  refine ⟨"tuple", _, PyProof.Rows.slot_tuple_getitem.lookup, ht.typeIs, ?_⟩
  refine HT.getItem_tuple_cut ht hs pl pu (by rw [hlen]; exact hw) ?_ (by rw [hlen]; exact hz)
  rw [hlen]
  refine ⟨.ref s.heap.objs.size, _, I.laid (t' := s.toks) (o := .tup (cutV xs lo hi)) (fun b ob q => Heap.get?_push_of_some _ q) (Nat.le_refl _) ?_, rfl, q _ (I.hok.fresh (Nat.le_refl _))⟩
  exact ⟨⟨Nat.le_trans (cutV_length xs lo hi) hz, _, Heap.get?_push_size _ rfl, rfl⟩, _, (r.drop (HT.sIx xs.length 0 lo)).take (HT.sIx xs.length xs.length hi - HT.sIx xs.length 0 lo), IsTup.new _ _⟩

/-! ### t < u, t + u -/
def rLtT (K : PySem.W.Frag) : R2 := fun x y H Q => ∃ a b ns ms, x = .ref a ∧ y = .ref b ∧ SqT K H a (ns.map V.int) ∧ SqT K H b (ms.map V.int) ∧ Q (.bl (HT.lexLt ns ms)) H
/-- t + u, t not empty: u empty gives t itself -/
def rCatT (K : PySem.W.Frag) : R2 := fun x y H Q => ∃ a b xs ys, x = .ref a ∧ y = .ref b ∧ SqT K H a xs ∧ SqT K H b ys ∧ xs ≠ [] ∧ xs.length + ys.length ≤ sizeLine ∧
  (ys = [] → Q (.ref a) H) ∧ (ys ≠ [] → ∀ p, H p = none → Q (.ref p) (upd H p (.tup (xs ++ ys))))
theorem Vals.nil_iff {xs : List V} {us : List Value} (r : Vals xs us) : us = [] ↔ xs = [] := by
  cases r with
  | nil => simp
  | cons _ _ => simp
theorem op_catT : OpR X (binaryOp .Add) (rCatT X.K) := by
  intro pins s σ H x y v u Q I rx ry h
  obtain ⟨a, b, xs, ys, rfl, rfl, ha, hb, hx, hz, q1, q2⟩ := h
  cases rx
  cases ry
  obtain ⟨its, r1, p1, _⟩ := I.tuple ha
  obtain ⟨its2, r2, p2, _⟩ := I.tuple hb
  refine HT.cat_tup p1 p2 (fun z => hx (r1.nil_iff.mp z)) (fun z => ⟨.ref a, H, I, rfl, q1 (r2.nil_iff.mp z)⟩) (fun z => ?_) (by rw [← r1.length, ← r2.length]; exact hz)
  refine ⟨.ref s.heap.objs.size, _, I.laid (t' := s.toks) (o := .tup (xs ++ ys)) (fun b ob q => Heap.get?_push_of_some _ q) (Nat.le_refl _) ?_, rfl, q2 (fun w => z (r2.nil_iff.mpr w)) _ (I.hok.fresh (Nat.le_refl _))⟩
  exact ⟨⟨by rw [List.length_append]; exact hz, _, Heap.get?_push_size _ rfl, rfl⟩, _, r1.append r2, IsTup.new _ _⟩
end
end L2

namespace L2
open PySem PySem.Spec PyProof.Rows

/-! ### places -/
/-- the place that an index of any sign means -/
def ixN (n : Nat) (i : Int) : Option Nat := if 0 ≤ i then (if i < n then some i.toNat else none) else if -(n : Int) ≤ i then some (i + n).toNat else none
def atI {α : Type} (xs : List α) (i : Int) : Option α := (ixN xs.length i).bind fun j => xs[j]?
theorem ixN_seq {n : Nat} {i : Int} {j : Nat} (h : ixN n i = some j) : seqIndex? i n = some j ∧ j < n ∧ -(n : Int) ≤ i ∧ i < n := by
  unfold ixN at h
  by_cases h0 : 0 ≤ i
  · rw [if_pos h0] at h
    by_cases h1 : i < n
    · rw [if_pos h1] at h
      have e : i.toNat = j := Option.some.inj h
      exact ⟨by rw [seqIndex_of h0 h1, e], by omega, by omega, h1⟩
    · rw [if_neg h1] at h; cases h
  · rw [if_neg h0] at h
    by_cases h1 : -(n : Int) ≤ i
    · rw [if_pos h1] at h
      have e : (i + n).toNat = j := Option.some.inj h
      exact ⟨by rw [seqIndex_neg (by omega) h1, e], by omega, h1, by omega⟩
    · rw [if_neg h1] at h; cases h
theorem atI_get {α : Type} {xs : List α} {i : Int} {v : α} (h : atI xs i = some v) : ∃ j, seqIndex? i xs.length = some j ∧ xs[j]? = some v ∧ j < xs.length ∧ -(xs.length : Int) ≤ i ∧ i < xs.length := by
  unfold atI at h
  cases e : ixN xs.length i with
  | none => rw [e] at h; cases h
  | some j =>
    rw [e] at h
    obtain ⟨h1, h2, h3, h4⟩ := ixN_seq e
    exact ⟨j, h1, h, h2, h3, h4⟩
theorem atI_nat {α : Type} {xs : List α} {j : Nat} {v : α} (h : xs[j]? = some v) : atI xs (j : Int) = some v := by
  have hj : j < xs.length := (List.getElem?_eq_some_iff.mp h).1
  have e : ixN xs.length (j : Int) = some j := by
    unfold ixN
    rw [if_pos (by omega), if_pos (by omega)]; simp
  unfold atI; rw [e]; exact h
/-! ### what may be subscripted -/
/-- what stands as an index of a plain subscript -/
def PlainIx (b : Expr) : Prop := ∀ o i, subscripted b false o i = operate [o, i] (getItem o i)
/-- a subscript by values -/
def IxR (X : Cx) (r : R2) : Prop :=
  ∀ (value slice : Expr) (pins : List (Addr × Obj)) (s : Shared) (σ : St) (H : Hp) (x y : V) (v u : Value) (Q : VK), Inv X pins σ H s → RelV x v → RelV y u → r x y H Q →
    subscripted slice false v u = operate [v, u] (getItem v u) → wpAny (model X.prog X.w) X.A (subscriptTail value slice v u) (EP X pins σ Q) X.xe s
/-- a call of a builtin's method by values: the receiver, the arguments -/
def MtR (X : Cx) (id : String) (r : V → List V → Hp → VK → Prop) : Prop :=
  ∀ (pins : List (Addr × Obj)) (s : Shared) (σ : St) (H : Hp) (x : V) (xs : List V) (v : Value) (us : List Value) (Q : VK), Inv X pins σ H s → RelV x v → Vals xs us → r x xs H Q →
    wpAny (model X.prog X.w) X.A (call (.builtin id) (v :: us)) (EP X pins σ Q) X.xe s
section
variable {X : Cx} {a b : Expr} {ta tb : TE} {pos : Pos}
/-- a[b] -/
theorem pe_ix {r : R2} (hr : IxR X r) (ha : PE X a ta) (hb : PE X b tb) (hs : PlainIx b) : PE X (.Subscript a b pos) (tOp r ta tb) := by
  intro pins s σ H Q I h
  exact Subscript_ (binT ha hb I h fun v u s2 x y H2 I2 rx ry q => hr a b pins s2 σ H2 x y v u Q I2 rx ry q (hs _ _))

def rIxL (K : PySem.W.Frag) : R2 := fun x y H Q => ∃ p xs i v, x = .ref p ∧ y = .int i ∧ SqL K H p xs ∧ atI xs i = some v ∧ Q v H
def rIxT (K : PySem.W.Frag) : R2 := fun x y H Q => ∃ p xs i v, x = .ref p ∧ y = .int i ∧ SqT K H p xs ∧ atI xs i = some v ∧ Q v H
def rIxS : R2 := fun x y H Q => ∃ z i c, x = .str z ∧ y = .int i ∧ z.length ≤ sizeLine ∧ atI z.cps.toList i = some c ∧ Q (.str ⟨#[c]⟩) H
theorem ix_list : IxR X (rIxL X.K) := by
  intro value slice pins s σ H x y v u Q I rx ry h hs
  obtain ⟨p, xs, i, z, rfl, rfl, hq, he, q⟩ := h
  cases rx
  obtain ⟨t, rfl⟩ := ry
  obtain ⟨its, r, pl, hz⟩ := I.list hq
  obtain ⟨j, h1, h2, h3, h4, h5⟩ := atI_get he
  obtain ⟨w, ew, rw'⟩ := r.get h2
  have hl := r.length
  have hn := line63
  have fin : EP X pins σ Q w s := ⟨z, H, I, rw', q⟩
  by_cases h0 : 0 ≤ i
  · have hj : i.toNat = j := by
      rw [seqIndex_of h0 h5] at h1
      exact Option.some.inj h1
    exact item_listR pl.isList h0 (by omega) (by rw [hj]; simpa using ew) fin hs
  · have hj : (i + (its.toArray.size : Int)).toNat = j := by
      rw [seqIndex_neg (by omega) h4] at h1
      rw [List.size_toArray, ← hl]
      exact Option.some.inj h1
    exact subscriptTail_builtinR (x := w) pl.isList.typeIs slot_list_getitem.lookup
      (wpAny_getItem_list_neg (Q := fun r s' => r = w ∧ EP X pins σ Q r s') pl.isList (by omega) (by rw [List.size_toArray] <;> omega) (by omega) (by rw [hj]; simpa using ew) ⟨rfl, fin⟩) hs
theorem ix_tup : IxR X (rIxT X.K) := by
  intro value slice pins s σ H x y v u Q I rx ry h hs
  obtain ⟨p, xs, i, z, rfl, rfl, hq, he, q⟩ := h
  cases rx
  obtain ⟨t, rfl⟩ := ry
  obtain ⟨its, r, pl, hz⟩ := I.tuple hq
  obtain ⟨j, h1, h2, h3, h4, h5⟩ := atI_get he
  obtain ⟨w, ew, rw'⟩ := r.get h2
  have hl := r.length
  have hn := line63
  have fin : EP X pins σ Q w s := ⟨z, H, I, rw', q⟩
  exact subscriptTail_builtinR (x := w) pl.typeIs slot_tuple_getitem.lookup
    (getItem_tuple (j := j) (Q := fun r s' => r = w ∧ EP X pins σ Q r s') pl (by omega) (by omega) (by rw [List.size_toArray, ← hl]; exact h1) (by simpa using ew) ⟨rfl, fin⟩) hs
/-- list, tuple or str -/
def rIx (K : PySem.W.Frag) : R2 := fun x y H Q => rIxL K x y H Q ∨ rIxT K x y H Q ∨ rIxS x y H Q
/-! ### xs[i] = v, any sign -/
/-- the list's object behind a store -/
theorem mapSeq_set (its : List Value) (n j : Nat) (u : Value) : Obj.mapSeq (·.setIfInBounds j u) { cls := .type "list", data := .seq its.toArray n } = { cls := .type "list", data := .seq (its.set j u).toArray n } := by
  simp [Obj.mapSeq]
theorem Inv.lst {pins : List (Addr × Obj)} {σ : St} {H : Hp} {s : Shared} {p : Addr} {xs : List V} (I : Inv X pins σ H s) (h : H p = some (.lst xs)) :
    ∃ (its : List Value) (n : Nat), Vals xs its ∧ s.heap.get? p = some { cls := .type "list", data := .seq its.toArray n } ∧ xs.length ≤ sizeLine := by
  obtain ⟨z, its, n, r, e⟩ := I.hok p _ h
  exact ⟨its, n, r, e, z⟩
/-- the list at p is written by an update of its object -/
theorem Inv.lstUpd {pins : List (Addr × Obj)} {σ : St} {H : Hp} {s : Shared} {p : Addr} {xs ys : List V} {its its' : List Value} {n n' : Nat} {f : Obj → Obj} (I : Inv X pins σ H s) (h : H p = some (.lst xs))
    (ho : s.heap.get? p = some { cls := .type "list", data := .seq its.toArray n }) (hf : f { cls := .type "list", data := .seq its.toArray n } = { cls := .type "list", data := .seq its'.toArray n' }) (r : Vals ys its') (hz : ys.length ≤ sizeLine) (t : Nat) :
    Inv X pins σ (upd H p (.lst ys)) { s with heap := s.heap.update p f, toks := t } := by
  have e : (s.heap.update p f).get? p = some { cls := .type "list", data := .seq its'.toArray n' } := by
    rw [Heap.get?_update_self f ho (by rw [hf] <;> rfl), hf]
  refine I.write (x := p) (e := p) (by rw [h]; trivial) (.inl rfl) (fun b u hb q => (Heap.get?_update_other _ _ (Ne.symm hb)).trans q) ⟨_, e⟩ ?_
  exact ⟨hz, its', n', r, e⟩
def rSetL : V → V → V → Hp → (Hp → Prop) → Prop := fun o i v H Q => ∃ p xs k j, o = .ref p ∧ i = .int k ∧ H p = some (.lst xs) ∧ ixN xs.length k = some j ∧ Q (upd H p (.lst (xs.set j v)))
theorem set_list : PSet X rSetL := by
  intro pins s σ H o i v ov iv u Q I ro ri rv h
  obtain ⟨p, xs, k, j, rfl, rfl, hp, hj, q⟩ := h
  cases ro
  obtain ⟨t, rfl⟩ := ri
  obtain ⟨its, n, r, ho, hz⟩ := I.lst hp
  obtain ⟨h1, h2, h3, h4⟩ := ixN_seq hj
  have hl := r.length
  have hn := line63
  have I' : Inv X pins σ (upd H p (.lst (xs.set j v))) { s with heap := s.heap.update p (Obj.mapSeq (·.setIfInBounds j u)) } :=
    I.lstUpd hp ho (mapSeq_set its n j u) (r.set rv j) (by rw [List.length_set]; exact hz) s.toks
  by_cases h0 : 0 ≤ k
  · have hk : k.toNat = j := by
      rw [seqIndex_of h0 h4] at h1
      exact Option.some.inj h1
    exact PySem.W.ki_setAt ho h0 (by omega) (by rw [List.size_toArray, ← hl]; exact h4) (by rw [hk]; exact ⟨_, I', q⟩)
  · have hk : (k + (its.toArray.size : Int)).toNat = j := by
      rw [seqIndex_neg (by omega) h3] at h1
      rw [List.size_toArray, ← hl]
      exact Option.some.inj h1
    exact PySem.W.ki_setBack ho (by omega) (by rw [List.size_toArray, ← hl]; exact h3) (by omega) (by rw [hk]; exact ⟨_, I', q⟩)

/-! ### slices -/
theorem slice_bounds (lo hi : Option Int) (n : Nat) : (sliceBounds lo hi none n).1 = ((HT.sIx n 0 lo : Nat) : Int) ∧ (sliceBounds lo hi none n).2.1 = ((HT.sIx n n hi : Nat) : Int) ∧ (sliceBounds lo hi none n).2.2 = 1 := by
  refine ⟨?_, ?_, rfl⟩
  · cases lo with
    | none => simp [sliceBounds, HT.sIx]
    | some i =>
      simp only [sliceBounds, HT.sIx, Option.getD_none, show (1 : Int) > 0 by decide, if_true]
      by_cases h : i < 0
      · simp only [h, if_true] <;> omega
      · simp only [h, if_false] <;> omega
  · cases hi with
    | none => simp [sliceBounds, HT.sIx]
    | some i =>
      simp only [sliceBounds, HT.sIx, Option.getD_none, show (1 : Int) > 0 by decide, if_true]
      by_cases h : i < 0
      · simp only [h, if_true] <;> omega
      · simp only [h, if_false] <;> omega
theorem slicePick_cut (its : List Value) (lo hi : Option Int) : slicePick its.toArray lo hi none = ((its.drop (HT.sIx its.length 0 lo)).take (HT.sIx its.length its.length hi - HT.sIx its.length 0 lo)).toArray := by
  obtain ⟨h1, h2, h3⟩ := slice_bounds lo hi its.toArray.size
  unfold slicePick
  rw [h1, h2, h3]
  simp only [sliceRange_one, pick_run, List.size_toArray] <;> rfl
/-- xs[lo:hi] of a list: a new list -/
def rSlL (K : PySem.W.Frag) : V → Option Int → Option Int → Hp → VK → Prop := fun x lo hi H Q => ∃ a xs, x = .ref a ∧ SqL K H a xs ∧ ∀ p, H p = none → Q (.ref p) (upd H p (.lst (cutV xs lo hi)))
theorem sl_list : SlR X (rSlL X.K) := by
  intro pins s σ H x v vl vu lo hi sl Q I rx hs pl pu h
  obtain ⟨a, xs, rfl, hx, q⟩ := h
  cases rx
  obtain ⟨its, r, ht, hz⟩ := I.list hx
  have hlen := r.length
  refine ⟨"list", _, slot_list_getitem.lookup, ht.isList.typeIs, ?_⟩
  refine wpAny_getItem_list_slice ht.isList hs pl pu .none (by simp) ?_ (by rw [List.size_toArray] <;> omega)
  rw [slicePick_cut, ← hlen]
  refine ⟨.ref s.heap.objs.size, _, I.laid (t' := s.toks) (o := .lst (cutV xs lo hi)) (fun b ob q => Heap.get?_push_of_some _ q) (Nat.le_refl _) ?_, rfl, q _ (I.hok.fresh (Nat.le_refl _))⟩
  exact ⟨Nat.le_trans (cutV_length xs lo hi) hz, _, 0, (r.drop (HT.sIx xs.length 0 lo)).take (HT.sIx xs.length xs.length hi - HT.sIx xs.length 0 lo), Heap.get?_push_size _ rfl⟩

/-! ### in, not in: flat items -/
def flatV : V → Bool
  | .non => true
  | .bl _ => true
  | .int _ => true
  | .str _ => true
  | _ => false
/-- == of flat values -/
def eqV : V → V → Bool
  | .non, .non => true
  | .bl a, .bl b => a == b
  | .bl a, .int b => (if a then 1 else 0) == b
  | .int a, .bl b => a == (if b then 1 else 0)
  | .int a, .int b => a == b
  | .str a, .str b => a == b
  | _, _ => false
theorem eqAt_V {A : Around} {s : Shared} {y x : V} {u v : Value} (ry : RelV y u) (rx : RelV x v) (fy : flatV y = true) (fx : flatV x = true) : SeqAt.EqAt A s u v (eqV y x) := by
  cases y with
  | non =>
    cases ry
    cases x with
    | non => cases rx; exact SeqAt.EqAt.same _
    | bl b => cases rx; exact SeqAt.EqAt.none_bool b
    | int b => obtain ⟨t, rfl⟩ := rx; exact SeqAt.EqAt.none_int b t
    | str b => obtain ⟨t, rfl⟩ := rx; exact SeqAt.EqAt.none_str b t
    | _ => exact absurd (show false = true from fx) Bool.false_ne_true
  | bl a =>
    cases ry
    cases x with
    | non => cases rx; exact SeqAt.EqAt.bool_none a
    | bl b => cases rx; exact SeqAt.EqAt.bool_bool a b
    | int b => obtain ⟨t, rfl⟩ := rx; exact SeqAt.EqAt.bool_int a b t
    | str b => obtain ⟨t, rfl⟩ := rx; exact SeqAt.EqAt.bool_str a b t
    | _ => exact absurd (show false = true from fx) Bool.false_ne_true
  | int a =>
    obtain ⟨t', rfl⟩ := ry
    cases x with
    | non => cases rx; exact SeqAt.EqAt.int_none a t'
    | bl b => cases rx; exact SeqAt.EqAt.int_bool a t' b
    | int b => obtain ⟨t, rfl⟩ := rx; exact SeqAt.EqAt.int_int a t' b t
    | str b => obtain ⟨t, rfl⟩ := rx; exact SeqAt.EqAt.int_str a t' b t
    | _ => exact absurd (show false = true from fx) Bool.false_ne_true
  | str a =>
    obtain ⟨t', rfl⟩ := ry
    cases x with
    | non => cases rx; exact SeqAt.EqAt.str_none a t'
    | bl b => cases rx; exact SeqAt.EqAt.str_bool a t' b
    | int b => obtain ⟨t, rfl⟩ := rx; exact SeqAt.EqAt.str_int a t' b t
    | str b => obtain ⟨t, rfl⟩ := rx; exact SeqAt.EqAt.str_str a t' b t
    | _ => exact absurd (show false = true from fx) Bool.false_ne_true
  | _ => exact absurd (show false = true from fy) Bool.false_ne_true
/-- the items' answers, read off the values (a value's own answer does not lean on its token) -/
def eqU (x : V) (u : Value) : Bool := match u with
  | .none => eqV .non x
  | .bool b => eqV (.bl b) x
  | .int i _ => eqV (.int i) x
  | .str z _ => eqV (.str z) x
  | _ => false
theorem eqU_of {x y : V} {u : Value} (r : RelV y u) (f : flatV y = true) : eqU x u = eqV y x := by
  cases y with
  | non => cases r; rfl
  | bl b => cases r; rfl
  | int i => obtain ⟨t, rfl⟩ := r; rfl
  | str z => obtain ⟨t, rfl⟩ := r; rfl
  | _ => exact absurd (show false = true from f) Bool.false_ne_true
theorem any_eqU {x : V} : ∀ {xs : List V} {us : List Value}, Vals xs us → xs.all flatV = true → us.any (eqU x) = xs.any fun y => eqV y x
  | _, _, .nil, _ => rfl
  | y :: xs, u :: us, .cons r t, f => by
    rw [List.all_cons, Bool.and_eq_true] at f
    rw [List.any_cons, List.any_cons, eqU_of r f.1, any_eqU t f.2]
theorem mem_eqAt {A : Around} {s : Shared} {x : V} {v : Value} (rx : RelV x v) (fx : flatV x = true) : ∀ {xs : List V} {us : List Value}, Vals xs us → xs.all flatV = true → ∀ u ∈ us, SeqAt.EqAt A s u v (eqU x u)
  | _, _, .nil, _ => fun u hu => by cases hu
  | y :: xs, u :: us, .cons r t, f => fun u' hu => by
    rw [List.all_cons, Bool.and_eq_true] at f
    rcases List.mem_cons.mp hu with rfl | hu
    · rw [eqU_of r f.1]; exact eqAt_V r rx f.1 fx
    · exact mem_eqAt rx fx t f.2 u' hu
def inV (x : V) (xs : List V) : Bool := xs.any fun y => eqV y x
/-- x in a list or tuple of flat items -/
def rIn (K : PySem.W.Frag) (neg : Bool) : R2 := fun x y H Q => ∃ p xs, y = .ref p ∧ (SqL K H p xs ∨ SqT K H p xs) ∧ flatV x = true ∧ xs.all flatV = true ∧ Q (.bl (if neg then !inV x xs else inV x xs)) H
theorem op_in_seq : OpR X (compareOp .In) (rIn X.K false) := by
  intro pins s σ H x y v u Q I rx ry h
  obtain ⟨p, xs, rfl, hq, fx, fs, q⟩ := h
  cases ry
  rcases hq with hq | hq
  · obtain ⟨its, r, pl, hz⟩ := I.list hq
    refine SeqAt.in_listAt (eqU x) pl.isList (fun w hw => mem_eqAt rx fx r fs w (by simpa using hw)) ⟨.bl _, H, I, rfl, ?_⟩
    rw [show its.toArray.any (eqU x) = its.any (eqU x) by simp, any_eqU r fs]
    exact q
  · obtain ⟨its, r, pl, hz⟩ := I.tuple hq
    refine SeqAt.in_tupleAt (eqU x) pl (fun w hw => mem_eqAt rx fx r fs w (by simpa using hw)) ⟨.bl _, H, I, rfl, ?_⟩
    rw [show its.toArray.any (eqU x) = its.any (eqU x) by simp, any_eqU r fs]
    exact q
theorem op_notIn_seq : OpR X (compareOp .NotIn) (rIn X.K true) := by
  intro pins s σ H x y v u Q I rx ry h
  obtain ⟨p, xs, rfl, hq, fx, fs, q⟩ := h
  cases ry
  rcases hq with hq | hq
  · obtain ⟨its, r, pl, hz⟩ := I.list hq
    refine SeqAt.notIn_listAt (eqU x) pl.isList (fun w hw => mem_eqAt rx fx r fs w (by simpa using hw)) ⟨.bl _, H, I, rfl, ?_⟩
    rw [show its.toArray.any (eqU x) = its.any (eqU x) by simp, any_eqU r fs]
    exact q
  · obtain ⟨its, r, pl, hz⟩ := I.tuple hq
    refine SeqAt.notIn_tupleAt (eqU x) pl (fun w hw => mem_eqAt rx fx r fs w (by simpa using hw)) ⟨.bl _, H, I, rfl, ?_⟩
    rw [show its.toArray.any (eqU x) = its.any (eqU x) by simp, any_eqU r fs]
    exact q
/-! ### len, list(x), tuple(x) of any list or tuple that is read -/
theorem call_len_seq : CallR X (.builtin "len") (fun xs H Q => ∃ p ys, xs = [.ref p] ∧ (SqL X.K H p ys ∨ SqT X.K H p ys) ∧ Q (.int ys.length) H) := by
  intro pins s σ H xs us Q I r h
  obtain ⟨p, ys, rfl, hq, q⟩ := h
  obtain ⟨u, rfl, rx⟩ := vals1 r
  cases rx
  have hn := line63
  rcases hq with hq | hq
  · obtain ⟨its, r', pl, hz⟩ := I.list hq
    have hlen := r'.length
    exact Calls.call_len_list pl.isList (by simp only [List.size_toArray] <;> omega) ⟨.int ys.length, H, I.tok _, ⟨s.toks + 1, by rw [List.size_toArray, hlen]⟩, q⟩
  · obtain ⟨its, r', pl, hz⟩ := I.tuple hq
    have hlen := r'.length
    exact len_tuple pl (by simp only [List.size_toArray] <;> omega) ⟨.int ys.length, H, I.tok _, ⟨s.toks + 1, by rw [List.size_toArray, hlen]⟩, q⟩
theorem call_list_of : CallR X (.type "list") (fun xs H Q => ∃ p ys, xs = [.ref p] ∧ (SqL X.K H p ys ∨ SqT X.K H p ys) ∧ ∀ l, H l = none → Q (.ref l) (upd H l (.lst ys))) := by
  intro pins s σ H xs us Q I r h
  obtain ⟨p, ys, rfl, hq, q⟩ := h
  obtain ⟨u, rfl, rx⟩ := vals1 r
  cases rx
  have fin : ∀ (its : List Value), Vals ys its → ys.length ≤ sizeLine → ∀ (h' : Heap) (c' : Nat), (∀ b o', s.heap.get? b = some o' → h'.get? b = some o') →
      h'.get? s.heap.objs.size = some { cls := .type "list", dict := none, data := .seq its.toArray c', slots := #[] } → EP X pins σ Q (.ref s.heap.objs.size) { s with heap := h' } := fun its r' hz h' c' kp e =>
    ⟨.ref s.heap.objs.size, _, I.laid (t' := s.toks) kp (Nat.le_refl _) (show ObjOk X.prog X.w _ h' _ (.lst ys) from ⟨hz, its, c', r', e⟩), rfl, q _ (I.hok.fresh (Nat.le_refl _))⟩
  rcases hq with hq | hq
  · obtain ⟨its, r', pl, hz⟩ := I.list hq
    have hlen := r'.length
    obtain ⟨o, ho, hc, n, hd⟩ := pl.isList
    exact call_list_seq p (.inl rfl) ho hc hd (fun h' c' kp e => fin its r' hz h' c' kp e) (by simp only [List.size_toArray] <;> omega)
  · obtain ⟨its, r', pl, hz⟩ := I.tuple hq
    have hlen := r'.length
    obtain ⟨o, ho, hc, n, hd⟩ := pl
    exact call_list_seq p (.inr rfl) ho hc hd (fun h' c' kp e => fin its r' hz h' c' kp e) (by simp only [List.size_toArray] <;> omega)
theorem call_tuple_of : CallR X (.type "tuple") (fun xs H Q => ∃ p ys, xs = [.ref p] ∧ ((SqL X.K H p ys ∧ ∀ l, H l = none → Q (.ref l) (upd H l (.tup ys))) ∨ (SqT X.K H p ys ∧ Q (.ref p) H))) := by
  intro pins s σ H xs us Q I r h
  obtain ⟨p, ys, rfl, h⟩ := h
  obtain ⟨u, rfl, rx⟩ := vals1 r
  cases rx
  rcases h with ⟨hq, q⟩ | ⟨hq, q⟩
  · obtain ⟨its, r', pl, hz⟩ := I.list hq
    have hlen := r'.length
    refine call_tuple_list pl.isList (fun h' kp => ?_) (by simp only [List.size_toArray] <;> omega)
    have I1 : Inv X pins σ H { s with heap := h' } := I.kept (t' := s.toks) kp
    have I2 : Inv X pins σ (upd H h'.objs.size (.tup ys)) { s with heap := h'.push { cls := .type "tuple", data := .seq its.toArray } } :=
      I1.laid (t' := s.toks) (fun b o e => Heap.get?_push_of_some _ e) (Nat.le_refl _) (show ObjOk X.prog X.w _ _ _ (.tup ys) from ⟨⟨hz, _, Heap.get?_push_size _ rfl, rfl⟩, its, r', IsTup.new _ _⟩)
    exact ⟨.ref h'.objs.size, _, I2, rfl, q _ (I1.hok.fresh (Nat.le_refl _))⟩
  · obtain ⟨its, r', pl, hz⟩ := I.tuple hq
    exact call_tuple_same pl ⟨.ref p, H, I, rfl, q⟩

/-! ### the call of a builtin's method: o.m(..) -/
/-- the value is of that builtin type -/
def tyV (K : PySem.W.Frag) (T : String) (x : V) (H : Hp) : Prop := match x with
  | .str _ => T = "str"
  | .int _ => T = "int"
  | .ref p => (T = "list" ∧ ∃ xs, SqL K H p xs) ∨ (T = "tuple" ∧ ∃ o, K.lookup p = some o ∧ o.cls = .type "tuple" ∧ o.dict = none) ∨
      (T = "dict" ∧ ((∃ kvs, H p = some (.dK kvs)) ∨ ∃ kvs, H p = some (.dT kvs))) ∨ (T = "set" ∧ ∃ S n, H p = some (.set S n))
  | _ => False
theorem tyV_is {pins : List (Addr × Obj)} {σ : St} {H : Hp} {s : Shared} {T : String} {x : V} {v : Value} (I : Inv X pins σ H s) (r : RelV x v) (ty : tyV X.K T x H) :
    s.TypeIs v T ∧ ∀ a, v = .ref a → ∃ ob, s.heap.get? a = some ob ∧ ob.dict = none := by
  cases x with
  | str z =>
    obtain ⟨t, rfl⟩ := r
    cases (show T = "str" from ty)
    exact ⟨typeIs_str s z t, fun _ e => nomatch e⟩
  | int i =>
    obtain ⟨t, rfl⟩ := r
    cases (show T = "int" from ty)
    exact ⟨typeIs_int s i t, fun _ e => nomatch e⟩
  | ref p =>
    cases r
    rcases ty with ⟨rfl, xs, hq⟩ | ⟨rfl, o, hk, hc, hd⟩ | ⟨rfl, hk⟩ | ⟨rfl, S, n, hk⟩
    · obtain ⟨its, _, pl, _⟩ := I.list hq
      refine ⟨pl.isList.typeIs, fun a e => ?_⟩
      cases e
      obtain ⟨o, n, e, c, hd, _⟩ := pl
      exact ⟨o, e, hd⟩
    · refine ⟨⟨o, I.kIn p o hk, hc⟩, fun a e => ?_⟩
      cases e
      exact ⟨o, I.kIn _ o hk, hd⟩
    · have z : ∃ o, s.heap.get? p = some o ∧ o.ExactDict := by
        rcases hk with ⟨kvs, hk⟩ | ⟨kvs, hk⟩
        · obtain ⟨_, _, _, _, o, _, _, e, ex, _⟩ := I.hok p _ hk
          exact ⟨o, e, ex⟩
        · obtain ⟨_, _, _, _, o, _, _, e, ex, _⟩ := I.hok p _ hk
          exact ⟨o, e, ex⟩
      obtain ⟨o, e, ex⟩ := z
      refine ⟨⟨o, e, ex.1⟩, fun a e2 => ?_⟩
      cases e2
      exact ⟨o, e, ex.2.1⟩
    · obtain ⟨o, _, _, _, e, ex, _⟩ := I.hok p _ hk
      refine ⟨⟨o, e, ex.1⟩, fun a e2 => ?_⟩
      cases e2
      exact ⟨o, e, ex.2.1⟩
  | _ => exact False.elim ty
def tBM0 (K : PySem.W.Frag) (T : String) (r : V → List V → Hp → VK → Prop) (to : TE) : TE := fun σ H Q => to σ H fun x H1 => tyV K T x H1 ∧ r x [] H1 Q
def tBM (K : PySem.W.Frag) (T : String) (r : V → List V → Hp → VK → Prop) (to : TE) (t : TA) : TE := fun σ H Q => to σ H fun x H1 => tyV K T x H1 ∧ t σ H1 fun xs H2 => r x xs H2 Q
variable {o e : Expr} {es : List Expr} {to : TE} {t : TA} {name : Str} {apos cpos : Pos} {T id : String} {r : V → List V → Hp → VK → Prop}
theorem pe_bm (pa : PlainAttrs T) (slot : Slot T name id) (hty : typeOf (.builtin id) = pure (.type "method_descriptor")) (hm : MtR X id r) (ho : PE X o to) (ha : PA X (e :: es) t)
    (hbase : attributeBase o name X.env (eval o X.env) = eval o X.env := by rfl)
    (hfew : ((backTo cpos (starEach (e :: es) X.env)).all (fun x => !x.1) && (backToKw cpos (keywordEach [] X.env)).all (fun x => x.1.isSome)
      && decide ((e :: es).length + ([] : List Keyword).length + (if ([] : List Keyword).isEmpty then 0 else 1) < 30)) = true := by rfl)
    (hline : (apos.endLine == cpos.line) = true := by rfl) (hs : starEach (e :: es) X.env = (false, eval e X.env) :: starEach es X.env := by rfl) (hplain : (backTo cpos (starEach es X.env)).any (·.1) = false := by rfl) :
    PE X (.Call (.Attribute o name apos) (e :: es) [] cpos) (tBM X.K T r to t) := by
  intro pins s σ H Q I h
  refine wpAny_Call_method_late hbase hfew hline rfl (thn (ho pins s σ H _ I h) fun v s1 ⟨x, H1, I1, r1, ty, q1⟩ => ?_)
  obtain ⟨h1, h2⟩ := tyV_is I1 r1 ty
  refine ⟨T, id, pa, slot, hty, h1, h2, ?_⟩
  have hA := ha cpos pins s1 σ H1 _ I1 q1
  rw [hs] at hA ⊢
  refine Calls.callWith_builtin (by show (false || (backTo cpos (starEach es X.env)).any (·.1)) = false; rw [hplain] <;> rfl) (Calls.evalArgs_plain ?_)
  exact thn hA fun us s2 ⟨vs, H2, I2, r2, q2⟩ => hm pins s2 σ H2 x vs v us Q I2 r1 r2 q2
/- xs.append(e), list.index on a module's tuple .. are MtR facts of 06m -/
end
end L2

namespace L2
open PySem PySem.Spec PyProof.Rows

def MtM (X : Cx) (id : String) (r : V → List V → Hp → VK → Prop) : Prop :=
  ∀ (pins : List (Addr × Obj)) (s : Shared) (σ : St) (H : Hp) (x : V) (xs : List V) (v : Value) (us : List Value) (Q : VK), Inv X pins σ H s → RelV x v → Vals xs us → r x xs H Q →
    wpAny (model X.prog X.w) X.A (call (.builtin id) (v :: us)) (EP X pins σ Q) X.xe s

/-! ### lists of values -/
theorem Vals.one : ∀ {x : V} {us : List Value}, Vals [x] us → ∃ u, us = [u] ∧ RelV x u
  | _, _, .cons r .nil => ⟨_, rfl, r⟩
theorem Vals.eraseIdx : ∀ {xs : List V} {us : List Value} (i : Nat), Vals xs us → Vals (xs.eraseIdx i) (us.eraseIdx i)
  | _, _, _, .nil => .nil
  | _, _, 0, .cons _ t => t
  | _, _, i + 1, .cons r t => .cons r (Vals.eraseIdx i t)
theorem len_erase {α : Type} : ∀ (l : List α) (i : Nat), (l.eraseIdx i).length ≤ l.length
  | [], _ => Nat.le_refl _
  | _ :: _, 0 => Nat.le_succ _
  | _ :: r, i + 1 => Nat.succ_le_succ (len_erase r i)
section
variable {X : Cx} {pins : List (Addr × Obj)} {σ : St} {H : Hp} {s : Shared} {l b : Addr} {xs ys zs : List V}

/-! ### the two steps: a tracked list is rewritten, a new list is laid -/
theorem Inv.lset {its its' : List Value} {n : Nat} {f : Array Value → Array Value} {t' : Nat} (I : Inv X pins σ H s) (hH : H l = some (.lst xs))
    (e : s.heap.get? l = some { cls := .type "list", data := .seq its.toArray n }) (hf : f its.toArray = its'.toArray) (hv : Vals ys its') (hz : ys.length ≤ sizeLine) :
    Inv X pins σ (upd H l (.lst ys)) { s with heap := s.heap.update l (Obj.mapSeq f), toks := t' } := by
  have q := PySem.IsL.update e f
  rw [hf] at q
  refine I.write (x := l) (e := l) (by rw [hH]; exact trivial) (.inl rfl) (fun b' u hb hu => (Heap.get?_update_other s.heap (Obj.mapSeq f) (Ne.symm hb)).trans hu) ⟨_, q⟩ ?_
  exact ⟨hz, its', _, hv, q⟩
theorem Inv.lnew {its : List Value} {t' : Nat} (I : Inv X pins σ H s) (hv : Vals ys its) (hz : ys.length ≤ sizeLine) :
    Inv X pins σ (upd H s.heap.objs.size (.lst ys)) { s with heap := s.heap.push { cls := .type "list", data := .seq its.toArray }, toks := t' } :=
  I.laid (fun _ _ q => Heap.get?_push_of_some _ q) (Nat.le_refl _) ⟨hz, its, 0, hv, Heap.get?_push_size _ rfl⟩
theorem Inv.fresh (I : Inv X pins σ H s) : H s.heap.objs.size = none := I.hok.fresh (Nat.le_refl _)
theorem Inv.lstM (I : Inv X pins σ H s) (hH : H l = some (.lst xs)) : xs.length ≤ sizeLine ∧ ∃ (its : List Value) (n : Nat), Vals xs its ∧ xs.length = its.length ∧ s.heap.get? l = some { cls := .type "list", data := .seq its.toArray n } := by
  obtain ⟨z, its, n, r, e⟩ := I.hok l _ hH
  exact ⟨z, its, n, r, r.length, e⟩

theorem notLongL {n : Nat} (h : n ≤ sizeLine) : Builtin.List.listTooLong n = false := by
  unfold Builtin.List.listTooLong
  exact decide_eq_false (by omega)
end

section
variable {X : Cx}

/-! ### methods -/
def rAppend : V → List V → Hp → VK → Prop := fun x vs H Q => ∃ l xs y, x = .ref l ∧ vs = [y] ∧ H l = some (.lst xs) ∧ xs.length < sizeLine ∧ Q .non (upd H l (.lst (xs ++ [y])))
theorem mt_append : MtM X "list.append" rAppend := by
  intro pins s σ H x vs v us Q I rx rv h
  obtain ⟨l, xs, y, rfl, rfl, hH, hz, q⟩ := h
  cases rx
  obtain ⟨u, rfl, ru⟩ := rv.one
  obtain ⟨z, its, n, r, hl, e⟩ := I.lstM hH
  refine call_meets F.slot_list_append ⟨_, e, rfl⟩ F.entry_list_append (F.args_list_append_2 _ _) (PySem.list_append l its.toArray n u (by rw [List.size_toArray]; omega)) ⟨e, ?_⟩
  refine ⟨.non, _, I.lset (its' := its ++ [u]) hH e (by simp) (r.append (.cons ru .nil)) ?_, rfl, q⟩
  rw [List.length_append, List.length_singleton]
  omega

def rExtend : V → List V → Hp → VK → Prop := fun x vs H Q => ∃ l b xs zs, x = .ref l ∧ vs = [.ref b] ∧ H l = some (.lst xs) ∧ H b = some (.lst zs) ∧ xs.length + zs.length ≤ sizeLine ∧ Q .non (upd H l (.lst (xs ++ zs)))
def rPop : V → List V → Hp → VK → Prop := fun x vs H Q => ∃ l xs y, x = .ref l ∧ vs = [] ∧ H l = some (.lst xs) ∧ xs[xs.length - 1]? = some y ∧ Q y (upd H l (.lst xs.dropLast))
def rPopAt : V → List V → Hp → VK → Prop := fun x vs H Q => ∃ l xs i k y, x = .ref l ∧ vs = [.int i] ∧ H l = some (.lst xs) ∧ -(2 ^ 63) ≤ i ∧ i < 2 ^ 63 ∧ seqIndex? i xs.length = some k ∧ xs[k]? = some y ∧ Q y (upd H l (.lst (xs.eraseIdx k)))
theorem mt_popAt : MtM X "list.pop" rPopAt := by
  intro pins s σ H x vs v us Q I rx rv h
  obtain ⟨l, xs, i, k, y, rfl, rfl, hH, h1, h2, hk, hy, q⟩ := h
  cases rx
  obtain ⟨u, rfl, ru⟩ := rv.one
  obtain ⟨t, rfl⟩ := ru
  obtain ⟨z, its, n, r, hl, e⟩ := I.lstM hH
  obtain ⟨w, hw, rw'⟩ := r.get hy
  refine call_meets F.slot_list_pop ⟨_, e, rfl⟩ F.entry_list_pop (F.args_list_pop_2 _ _)
    (MeetsSeq.list_pop_at l its.toArray n i t k w (fitsIndex_both h1 h2) (by rw [List.size_toArray, ← hl]; exact hk) (by rw [← Array.getElem?_toList]; exact hw) (by rw [List.size_toArray]; omega)) ⟨e, ?_⟩
  refine ⟨y, _, I.lset (its' := its.eraseIdx k) hH e ?_ (r.eraseIdx k) ?_, rw', q⟩
  · show its.toArray.eraseIdxIfInBounds k = (its.eraseIdx k).toArray
    rw [List.eraseIdxIfInBounds_toArray]
  · have := len_erase xs k
    omega

def rReverse : V → List V → Hp → VK → Prop := fun x vs H Q => ∃ l xs, x = .ref l ∧ vs = [] ∧ H l = some (.lst xs) ∧ Q .non (upd H l (.lst xs.reverse))
def rClear : V → List V → Hp → VK → Prop := fun x vs H Q => ∃ l xs, x = .ref l ∧ vs = [] ∧ H l = some (.lst xs) ∧ Q .non (upd H l (.lst []))
/-! ### list + list, list += list, list * int -/
def rCat : R2 := fun x y H Q => ∃ l b xs zs, x = .ref l ∧ y = .ref b ∧ H l = some (.lst xs) ∧ H b = some (.lst zs) ∧ xs.length + zs.length ≤ sizeLine ∧ ∀ p, H p = none → Q (.ref p) (upd H p (.lst (xs ++ zs)))
theorem op_cat : OpR X (binaryOp .Add) rCat := by
  intro pins s σ H x y v u Q I rx ry h
  obtain ⟨l, b, xs, zs, rfl, rfl, hH, hB, hz, q⟩ := h
  cases rx
  cases ry
  obtain ⟨z, its, n, r, hl, e⟩ := I.lstM hH
  obtain ⟨z2, its2, n2, r2, hl2, e2⟩ := I.lstM hB
  refine PySem.P.add_list e e2 ?_ (by rw [List.size_toArray, List.size_toArray]; omega)
  have ea : its.toArray ++ its2.toArray = (its ++ its2).toArray := by simp
  rw [ea]
  exact ⟨.ref _, _, I.lnew (t' := s.toks) (r.append r2) (by rw [List.length_append]; omega), rfl, q _ I.fresh⟩
/-- a list times an int (a negative one is nothing) -/
def rRep : R2 := fun x y H Q => ∃ l k xs, x = .ref l ∧ y = .int k ∧ H l = some (.lst xs) ∧ -(2 ^ 63) ≤ k ∧ k < 2 ^ 63 ∧ xs.length * k.toNat ≤ sizeLine ∧
  ∀ p, H p = none → Q (.ref p) (upd H p (.lst (List.replicate k.toNat xs).flatten))
/-! ### del xs[i] -/
end

/-! ### xs[a:b] = ys -/
section
variable {prog : Program} {w : World} {A : Around} {E : Value → Shared → Prop} {s : Shared}
set_option maxRecDepth 100000 in
end

section
variable {X : Cx}
end
end L2

namespace Att
open PySem PySem.W PySem.Calls PyProof.Rows

/-! ### the script -/
theorem ints_of_wellAll {P : Params} {h : Heap} : ∀ (ns : List Int) (vs : List Value), WellAll P h vs (ns.map WData.int) → IntsAre vs ns := by
  intro ns
  induction ns with
  | nil =>
    intro vs w
    rw [List.map_nil] at w
    cases w
    exact .nil
  | cons n ns ih =>
    intro vs w
    rw [List.map_cons] at w
    cases w with
    | cons a b =>
      cases a
      exact .cons _ _ (ih _ b)

theorem script_of {l : OpenLaw} {n : Nat} (hn : l.most = some n) {P : Params} {h : Heap} {args : List WData} {vals : List Value}
    (hpre : l.row.toRowW.claim.pre args = true) (hwl : WellAll P h vals args) :
    ∃ a vs ns, vals = [Value.ref a] ∧ args = [WData.list (ns.map WData.int)] ∧ h.get? a = some { cls := .type "list", data := .seq vs.toArray } ∧ IntsAre vs ns ∧ ns.length ≤ n := by
  have hsh : WShape.hasAll [] args [.list .int] = true := (pre_splitW hpre).1
  have hc : l.pre.holds [] { args := args } = true := (pre_splitW hpre).2
  obtain ⟨d, r, rfl, h1, h2⟩ := hasAllW_cons hsh
  obtain rfl := hasAllW_nil h2
  obtain ⟨xs, rfl, h3⟩ := hasW_list h1
  obtain ⟨ns, rfl⟩ := items_int h3
  have hlen : ns.length ≤ n := by
    unfold OpenLaw.pre at hc
    have h4 : (WTm.not (.lt (.lit (.int (n : Int))) (.len (.arg 0)))).holds [] { args := [.list (ns.map .int)] } = true := by
      have h4 := (holds_andW hc).1
      rw [hn] at h4
      exact h4
    have h5 := condW_of h4 (w_not (w_lt w_lit (w_len_list (w_arg rfl))))
    rw [List.length_map] at h5
    refine Nat.le_of_not_lt fun q => ?_
    have q' : (n : Int) < ((ns.length : Nat) : Int) := by omega
    first
      | (rw [decide_eq_true q'] at h5; exact absurd h5 (by decide))
      | (simp at h5; omega)
  cases hwl with
  | cons w1 w2 =>
    cases w2
    cases w1 with
    | list ho hall => exact ⟨_, _, ns, rfl, rfl, ho, ints_of_wellAll ns _ hall, hlen⟩

theorem post_true (l : OpenLaw) (args : List WData) : l.row.toRowW.claim.post args (.bool true) args = true :=
  postW_of (r := l.row.toRowW) (X := (true == true))
    (show WShape.has [] (.bool true) .bool = true by first | rfl | decide | simp [WShape.has, WShape.arms, WShape.armsAll])
    (show (WTm.eq .res (.lit (.bool true))).value [] { args := args, res := some (.bool true), after := args } = some (.bool (true == true)) from w_eq_bool (w_res rfl) w_lit) rfl

/-! ### the attachment: holds_open's last premise (the goal 'hc' behind k_head) from a wpAny of the law's body -/
/-- the same from a codeAny of the CALL (for a layer whose function contracts speak of calls) -/
theorem attach_call {l : OpenLaw} {n : Nat} {q : Program} {loose : List Str} {XP : (Str → Option Value) → Heap → Prop} {YP : World → Heap → Prop} {d : DefRec}
    (hn : l.most = some n) (hdf : d.params.defaults = [])
    (call : ∀ (w : World) (s₀ s₁ : Shared) (mg mb : Str → Option Value) (fa : Addr) (o : Obj) (pm cd doc : Value) (a : Addr) (vs : List Value) (ns : List Int),
      Ground q loose [] XP w s₀ mg mb s₁.heap → YP w s₁.heap →
      s₁.heap.get? fa = some o → o.data = .func (docDef d.name d.params d.body d.scope pm cd doc) → s₁.heap.CodeRec cd d.name → mg d.name = some (.ref fa) →
      s₁.heap.get? a = some { cls := .type "list", data := .seq vs.toArray } → IntsAre vs ns → ns.length ≤ n → s₁.gens = #[] →
      codeAny (model l.prog w) callerA (.call (.ref fa) ⟨[.ref a], []⟩) (fun r s' => r = .ok (.ret (.bool true)) ∧ OldK s₁.heap s'.heap ∧ s'.os = s₁.os ∧ AllBare s'.gens) s₁) :
    WalkO q loose XP YP l.row.toRowW d [] (fun f vs => PySem.call f vs) := by
  intro w s₀ s₁ mg mb G Y fa o pm cd doc dV kV ho hd hcd hD hmg hg args vals as hpre hlay hrd hwl hlo
  obtain rfl : dV = .none := Dflts.none hD hdf
  obtain rfl : kV = .none := Dflts.noKw hD
  obtain ⟨a, vs, ns, rfl, rfl, hobj, hints, hlen⟩ := script_of hn hpre hwl
  refine enter_call (codeAny_mono (call w s₀ s₁ mg mb fa o pm cd doc a vs ns G Y ho (fd_plain hd) hcd hmg hobj hints hlen hg) fun r s' hq => ?_)
  obtain ⟨rfl, h2, h3, h4⟩ := hq
  exact ⟨.inl ⟨.bool true, .bool true, [], rfl, fun _ => rfl, .bool true, post_true l _, fun _ => ⟨List.Pairwise.nil, fun _ hm => (nomatch hm)⟩⟩, h2, h3, h4⟩

/-! ### rules over ANY heap (no ledger) from facts about the written part K: the library's own take a ledger (News) for what they write -/
section
variable {prog : Program} {w : World} {A : Around} {E : Value → Shared → Prop} {s : Shared} {K : Frag}

/-! the whole heap as the ledger: makes every rule that writes through a ledger a rule over any heap -/
def noObjs (h : Heap) : Heap := { h with objs := #[] }
def ledger (h : Heap) (L d : Addr) : List (Addr × Obj) := (List.range h.objs.size).filterMap fun a => if a = L ∨ a = d then none else (h.get? a).map fun o => (a, o)
end
end Att

namespace L2
open PySem PySem.Spec PyProof.Rows

theorem vals_ints : ∀ {vs : List Value} {ns : List Int}, IntsAre vs ns → Vals (ns.map V.int) vs
  | _, _, .nil => .nil
  | _, _, .cons n t h => .cons ⟨t, rfl⟩ (vals_ints h)

/-- nothing is tracked but the script, known to the object (or it is an object of the module) -/
def Only (H : Hp) : Prop := ∀ b, H b = none ∨ ∃ o xs, H b = some (.frz o (.lst xs))

/-- THE HEAD: the law's promise, at the heap behind the top. F, the promise of the law's def, may use that base is part of the heap (so K.In base, base.Ns mainGlobals mg stand in Mod) -/
theorem law_call {P : Program} {w : World} {K : PySem.W.Frag} {mg mb : Str → Option Value} {CX : CXT} {k : Nat} {fa a : Addr} {fd : FuncData} {x : Str} {sp : Sp} {s₁ : Shared} {vs : List Value} {ns : List Int}
    (KX : K.In s₁.heap) (hns : s₁.heap.Ns mainGlobals mg) (hb : s₁.heap.Ns builtinsNs mb) (hbb : ∀ x : Str, x ≠ "__name__" → mb x = bootBuiltins x) (hlim : s₁.heap.NoLimit) (hg : s₁.gens = #[])
    (ha : s₁.heap.get? a = some { cls := .type "list", data := .seq vs.toArray }) (hi : IntsAre vs ns) (hl : ns.length ≤ sizeLine) (hr : Room k callerA)
    (F : ∀ base : Heap, K.In base → base.Ns mainGlobals mg → FnOk P w K mg base CX k fa fd [x] sp) (hbind : ∀ (s : Shared) (u : Value), BindsTo s fd ⟨[u], []⟩ [(x, u)])
    (hsp : ∀ H : Hp, Only H → SqL K H a (ns.map V.int) → sp [.ref a] H (fun v _ => v = .bl true) fun _ _ _ => False)
    (hCX : ∀ H e s', CX [] H s₁ (fun _ _ _ => False) e s' → False) :
    codeAny (model P w) callerA (.call (.ref fa) ⟨[.ref a], []⟩) (fun r s' => r = .ok (.ret (.bool true)) ∧ OldK s₁.heap s'.heap ∧ s'.os = s₁.os ∧ AllBare s'.gens) s₁ := by
  have rv := vals_ints hi
  have lenV := hi.length
  -- from an abstract heap in which nothing but the script may be tracked
  have core : ∀ H : Hp, Only H → SqL K H a (ns.map V.int) → HOk P w H s₁.heap → (∀ b, H b ≠ none → b = a) → (H a ≠ none → K.lookup a = none) →
      codeAny (model P w) callerA (.call (.ref fa) ⟨[.ref a], []⟩) (fun r s' => r = .ok (.ret (.bool true)) ∧ OldK s₁.heap s'.heap ∧ s'.os = s₁.os ∧ AllBare s'.gens) s₁ := by
    intro H hO hS hok hA hK
    have base_of : ∀ {b : Addr} {o : Obj}, s₁.heap.get? b = some o → H b = none → (hidT s₁.heap H).get? b = some o := fun e n => hidT_get e n
    have noA : ∀ {b : Addr} {o : Obj} {es : Array DictEntry} {ep : Nat}, s₁.heap.get? b = some o → o.data = .dict es ep → H b = none := fun {b o es ep} e d => by
      cases q : H b with
      | none => rfl
      | some u =>
        have e' : b = a := hA b (by rw [q]; simp)
        subst e'
        rw [ha] at e; cases e
        have d' : Data.seq vs.toArray _ = Data.dict es ep := d
        cases d'
    have nsK : ∀ {b : Addr} {m : Str → Option Value}, s₁.heap.Ns b m → (hidT s₁.heap H).Ns b m := fun {b m} ⟨o, es, ep, e, d, r⟩ => ⟨o, es, ep, base_of e (noA e d), d, r⟩
    have hKb : K.In (hidT s₁.heap H) := fun b o e => base_of (KX b o e) (by
      cases q : H b with
      | none => rfl
      | some u =>
        have e' : b = a := hA b (by rw [q]; simp)
        subst e'
        rw [hK (by rw [q]; simp)] at e; cases e)
    have hM : Mod K mg (hidT s₁.heap H) := ⟨hKb, nsK hns, ⟨mb, nsK hb, hbb⟩, let ⟨mc, h1, h2⟩ := hlim; ⟨mc, nsK h1, h2⟩⟩
    have e0 : Env0 P w K mg (hidT s₁.heap H) callerA [] s₁ H := ⟨rfl, hM, fun b o e => of_hidT e, Nat.le_of_eq (hidT_size _ _), trivial, fun b hb => absurd (show b ∈ ([] : List Addr) from hb) (by simp), hok, .of_eq hg⟩
    refine codeAny_mono ((F _ hKb (nsK hns)).run callerA [] s₁ H ⟨[.ref a], []⟩ [.ref a] [.ref a] _ _ hr e0 (hbind s₁ (.ref a)) (.cons rfl .nil) (hsp H hO hS)) fun r s' h => ?_
    cases r with
    | error e => exact (hCX H e s' h).elim
    | ok fl =>
      cases fl with
      | next => exact False.elim h
      | brk => exact False.elim h
      | cont => exact False.elim h
      | ret u =>
        obtain ⟨v, H', os, bare, un, hok', r', q⟩ := h
        have q' : v = .bl true := q
        subst q'
        obtain rfl : u = Value.bool true := r'
        refine ⟨rfl, OldK.of_keep fun b o e => ?_, os, bare⟩
        cases q : H b with
        | none => exact un.keep b o e q (by intro z; exact absurd (show b ∈ ([] : List Addr) from z) (by simp)) (by simp)
        | some u =>
          rcases hO b with z | ⟨ob, xs, z⟩
          · rw [q] at z; cases z
          · have z2 := un.frzs b ob _ z
            obtain ⟨e1, _⟩ := hok b _ z
            obtain ⟨e2, _⟩ := hok' b _ z2
            rw [e] at e1; cases e1
            exact e2
  cases hk : K.lookup a with
  | some o =>
    -- the script is one of the module's own objects
    have e := KX a o hk
    rw [ha] at e
    cases e
    refine core (fun _ => none) (fun _ => .inl rfl) (.inr ⟨_, vs.toArray, _, hk, rfl, rfl, rfl, by rw [List.size_toArray, lenV]; exact hl, by simpa using rv⟩) (fun b u z => by have z' : (none : Option HO) = some u := z; cases z') (fun b z => absurd rfl z) fun z => absurd rfl z
  | none =>
    refine core (fun b => if b = a then some (.frz { cls := .type "list", data := .seq vs.toArray } (.lst (ns.map V.int))) else none) (fun b => ?_) (.inl (.inr ⟨{ cls := .type "list", data := .seq vs.toArray }, if_pos rfl⟩)) (fun b u z => ?_) (fun b z => ?_) fun _ => hk
    · by_cases hb : b = a
      · exact .inr ⟨_, _, if_pos hb⟩
      · exact .inl (if_neg hb)
    · by_cases hb : b = a
      · have z' := (if_pos hb).symm.trans z
        cases z'
        subst hb
        exact ⟨ha, by rw [List.length_map]; exact hl, vs, _, rv, ha⟩
      · have z' := (if_neg hb).symm.trans z
        cases z'
    · by_cases hb : b = a
      · exact hb
      · exact absurd (if_neg hb) z
end L2

namespace L2
open PySem PySem.Spec PyProof.Rows

abbrev KOf {K : PySem.W.Frag} {h : Heap} (_ : K.In h) : PySem.W.Frag := K

/-- the goal that k_head leaves (case hc), from the law's promise. F gives the function object fd (K's own) once, then the promise over every base -/
theorem walk_of {l : PySem.W.OpenLaw} {n k : Nat} {q : Program} {loose : List Str} {XP : (Str → Option Value) → Heap → Prop} {YP : World → Heap → Prop} {d : DefRec} {K : Params → PySem.W.Frag} {CX : World → CXT} {sp : World → Sp} {x : Str}
    (hn : l.most = some n) (hn2 : n ≤ sizeLine) (hdf : d.params.defaults = []) (hr : Room k callerA)
    (hY : ∀ (w : World) (h : Heap), YP w h → (K w.params).In h)
    (F : ∀ (w : World) (mg : Str → Option Value) (fa : Addr) (h : Heap), (K w.params).In h → h.Ns mainGlobals mg → mg d.name = some (.ref fa) →
      ∃ fd : FuncData, (∀ (s : Shared) (u : Value), BindsTo s fd ⟨[u], []⟩ [(x, u)]) ∧
        ∀ base : Heap, (K w.params).In base → base.Ns mainGlobals mg → FnOk l.prog w (K w.params) mg base (CX w) k fa fd [x] (sp w))
    (hsp : ∀ (w : World) (H : Hp) (a : Addr) (ns : List Int), ns.length ≤ n → Only H → SqL (K w.params) H a (ns.map V.int) → sp w [.ref a] H (fun v _ => v = .bl true) fun _ _ _ => False)
    (hCX : ∀ (w : World) (H : Hp) (s : Shared) (e : Value) (s' : Shared), CX w [] H s (fun _ _ _ => False) e s' → False) :
    PySem.W.WalkO q loose XP YP l.row.toRowW d [] (fun f vs => PySem.call f vs) := by
  refine Att.attach_call hn hdf fun w s₀ s₁ mg mb fa o pm cd doc a vs ns G Y ho hd hcd hmg hobj hints hlen hg => ?_
  have KX := hY w _ Y
  obtain ⟨fd, hb, hF⟩ := F w mg fa _ KX G.T.g hmg
  exact law_call KX G.T.g G.T.b G.T.builtins G.T.nolimit hg hobj hints (Nat.le_trans hlen hn2) hr hF hb (fun H hO hS => hsp w H a ns hlen hO hS) fun H e s' => hCX w H s₁ e s'
end L2



/-! SHORT WORDS over the layer: a def of the text, its body, what a loop and a test want. -/
namespace L2
open PySem PySem.Spec PyProof.Rows

/-! ### the text by places -/
/-- the j-th statement of a class's body -/
def inClass (s : Stmt) (j : Nat) : Stmt := match s with
  | .ClassDef _ _ _ body _ _ _ _ _ _ _ => body.getD j (.Pass ⟨0, 0, 0, 0⟩)
  | _ => .Pass ⟨0, 0, 0, 0⟩
def defArgs (s : Stmt) : Arguments := match s with
  | .FunctionDef _ a _ _ _ _ _ _ _ _ => a
  | _ => { posonlyargs := [], args := [], vararg := none, kwonlyargs := [], kw_defaults := [], kwarg := none, defaults := [] }
def defBody (s : Stmt) : List Stmt := match s with
  | .FunctionDef _ _ b _ _ _ _ _ _ _ => b
  | _ => []
def defScope (s : Stmt) : Scope := match s with
  | .FunctionDef _ _ _ _ _ _ sc _ _ _ => sc
  | _ => { kind := .function, names := [], isGenerator := false, isCoroutine := false }

/-! ### no exception leaves a def -/
abbrev CX0 : CXT := fun _ _ _ _ _ _ => False
abbrev E0 : XK := fun _ _ _ => False
theorem pass0 {X : Cx} : Passes CX0 X E0 := fun _ _ _ _ _ _ _ h => h.elim

/-! ### a def (or method) of the text as it stands behind the top -/
structure Fun (K : PySem.W.Frag) (x qual : Str) (st : Stmt) (f : Addr) (fd : FuncData) : Prop where
  ex : ∃ (oc : Value) (od : Option Addr) (kV doc pm : Value) (an : Option Addr) (cdv ct : Value) (osl : Array (Option Value)),
    fd = PySem.W.fnOf x qual (defArgs st) (defBody st) (defScope st) .none kV doc pm an cdv ct ∧ K.lookup f = some ⟨oc, od, .func fd, osl⟩ ∧ PySem.W.codeIn K cdv qual = true
  kp : PySem.W.keepIn K (.ref f) = true
section
variable {P : Program} {w : World} {K : PySem.W.Frag} {mg : Str → Option Value} {base : Heap}
/-- THE RULE for a def: its body as a term of rules, and the reading of that term -/
theorem Fun.ok {x qual : Str} {st : Stmt} {f : Addr} {fd : FuncData} {N ps : List Str} {k : Nat} {sp : Sp} (F : Fun K x qual st f fd) (S : FnScope N ps (defScope st)) (len : ∀ vs H Q E, sp vs H Q E → vs.length = ps.length)
    (hbody : ∀ (cdv : Value) (A : Around) (outer : List Env) (s : Shared) (H : Hp) (vs : List V) (Q : VK) (E : XK), Room k (A.deeper (envOfC qual (defScope st) s.heap.objs.size f cdv)) → sp vs H Q E →
      ∃ t, PSs (cxOf CX0 P w K mg base N qual (defScope st) f cdv A outer s H E).nox (defBody st) t ∧ t { nx := fun _ H' => Q .non H', rt := Q } (start N vs) H) : FnOk P w K mg base CX0 (k + 1) f fd ps sp := by
  obtain ⟨oc, od, kV, doc, pm, an, cdv, ct, osl, rfl, lk, hcd⟩ := F.ex
  refine fn_of lk hcd S len fun A outer s H vs Q E hr hsp => ?_
  obtain ⟨t, h, q⟩ := hbody cdv A outer s H vs Q E hr hsp
  exact ⟨t, h.nox, q⟩
/-- how its arguments bind (no defaults): h is «fun _ _ _ _ _ _ us hl => match us, hl with | [_, _], _ => rfl», one _ a parameter -/
theorem Fun.binds {x qual : Str} {st : Stmt} {f : Addr} {fd : FuncData} {ps : List Str} (F : Fun K x qual st f fd)
    (h : ∀ (kV doc pm : Value) (an : Option Addr) (cdv ct : Value) (us : List Value), us.length = ps.length → bindArgs (PySem.W.fnOf x qual (defArgs st) (defBody st) (defScope st) .none kV doc pm an cdv ct) ⟨us, []⟩ = pure (ps.zip us)) : Binds K fd ps [] := by
  obtain ⟨oc, od, kV, doc, pm, an, cdv, ct, osl, rfl, lk, hcd⟩ := F.ex
  exact .all (h kV doc pm an cdv ct)
theorem fun_mk {x qual : Str} {st : Stmt} {f : Addr} {oc : Value} {od an : Option Addr} {osl : Array (Option Value)} {kV doc pm cdv ct : Value} (l : K.lookup f = some ⟨oc, od, .func (PySem.W.fnOf x qual (defArgs st) (defBody st) (defScope st) .none kV doc pm an cdv ct), osl⟩)
    (c : PySem.W.codeIn K cdv qual = true) (k : PySem.W.keepIn K (.ref f) = true) : Fun K x qual st f (PySem.W.fnOf x qual (defArgs st) (defBody st) (defScope st) .none kV doc pm an cdv ct) := ⟨⟨oc, od, kV, doc, pm, an, cdv, ct, osl, rfl, l, c⟩, k⟩
end
theorem hu_of {A : Around} {k : Nat} (hr : Room k A) : A.units + 1 < cLine := Nat.lt_of_le_of_lt (Nat.add_le_add_left (by decide : 1 ≤ 64) _) hr.units
/-! ### expressions in short: the name that stands in the i-th slot -/
section
variable {X : Cx}
theorem pv (i : Nat) {x : Str} {pos : Pos} (hN : X.N[i]? = some x := by rfl) (hv : Vis X.env.scope x := by first | exact Or.inl rfl | exact Or.inr (Or.inl rfl) | exact Or.inr (Or.inr rfl)) (hd : (x == ("__debug__" : Str)) = false := by decide)
    (hcd : (x == ("__classdict__" : Str)) = false := by decide) : PE X (.Name x pos) (tVar i) := pe_var hN hv hd hcd
end

/-! ### tests -/
theorem iteF {A B : Prop} (h : B) : if false = true then A else B := by
  rw [if_neg Bool.false_ne_true]
  exact h
theorem iteT {A B : Prop} (h : A) : if true = true then A else B := by
  rw [if_pos rfl]
  exact h
theorem ite2 {c A B : Prop} [Decidable c] (h1 : c → A) (h2 : ¬ c → B) : if c then A else B := by
  by_cases h : c
  · rw [if_pos h]
    exact h1 h
  · rw [if_neg h]
    exact h2 h
/-! ### heaps -/
/-- all that was tracked is as it was -/
def Same (H H' : Hp) : Prop := ∀ b o, H b = some o → H' b = some o
theorem Same.refl (H : Hp) : Same H H := fun _ _ h => h
theorem Same.trans {H H1 H2 : Hp} (a : Same H H1) (b : Same H1 H2) : Same H H2 := fun c o h => b c o (a c o h)
end L2

namespace L2
open PySem PySem.Spec PyProof.Rows
/-! ### a dict's pairs: keys that differ -/
section
variable {κ : Type} [DecidableEq κ]
end
end L2

namespace L2
open PySem PySem.Spec PyProof.Rows
section
variable {X : Cx}
end
end L2
set_option Elab.async false
set_option linter.all false
set_option maxRecDepth 100000
set_option maxHeartbeats 4000000
namespace L2
open PySem PySem.Spec PyProof.Rows

/-! ### list comprehensions of one clause -/
theorem compLoop_gen {prog : Program} {w : World} {A : Around} {R : Result → Shared → Prop} {s : Shared} {elt target iter : Expr} {ifs : List Expr} {scope : Scope} {pos : Pos} {it acc : Value} {env : Env} (I : Nat → Shared → Prop)
    (turn : ∀ n s, I n s → wpAny (model prog w) A (pyNext it) (fun r s₁ => match r with
      | none => R (.ok .next) s₁
      | some v => wpAny (model prog w) A (letOwnedTupleGo target it v) (fun _ s₁' => wpAny (model prog w) A (assign target env v) (fun _ s₂ =>
          wpAny (model prog w) A (forIn ifs true fun c r => if r = true then do let ok ← isTrue c env (eval c env); pure (ForInStep.yield ok) else pure (ForInStep.yield r)) (fun ok s₃ =>
            if ok = true then wpAny (model prog w) A (eval elt env) (fun x s₄ =>
              wpAny (model prog w) A (call (.builtin "list.append") [acc, x]) (fun _ s₅ => ∃ m, m < n ∧ I m s₅) (fun _ _ => False) s₄) (fun _ _ => False) s₃
            else ∃ m, m < n ∧ I m s₃) (fun _ _ => False) s₂) (fun _ _ => False) s₁') (fun _ _ => False) s₁) (fun _ _ => False) s)
    (n : Nat) (h : I n s) : codeAny (model prog w) A (.compLoop (.ListComp elt [⟨target, iter, ifs, 0⟩] scope pos) 0 it acc env) R s := by
  refine codeAny_loop rfl I (fun n s hI => ?_) n h
  show wpAny _ A ((compTurn (.ListComp elt [⟨target, iter, ifs, 0⟩] scope pos) 0 it acc env).onRaise (fun x => do noteFrame x env; theTreesLotGoes x)) _ _ s
  refine wpAny_noted ?_
  rw [compTurn_list]
  refine wpAny_bind (wpAny_standAt (wpAny_bind (wpAny_mono (turn n s hI) (fun r s₁ h₁ => ?_) fun _ _ h' => h'.elim)))
  cases r with
  | none => exact wpAny_pure h₁
  | some v =>
    refine wpAny_bind (wpAny_mono h₁ (fun _ s₁' h₁' => ?_) fun _ _ h' => h'.elim)
    refine wpAny_bind (wpAny_mono h₁' (fun _ s₂ h₂ => wpAny_bind (wpAny_mono h₂ (fun ok s₃ h₃ => ?_) fun _ _ h' => h'.elim)) fun _ _ h' => h'.elim)
    cases ok with
    | false => exact wpAny_pure ⟨rfl, h₃⟩
    | true =>
      exact wpAny_bind (wpAny_bind (wpAny_mono h₃ (fun x s₄ h₄ => wpAny_bind (wpAny_mono h₄ (fun _ s₅ h₅ => wpAny_pure (wpAny_pure ⟨rfl, h₅⟩)) fun _ _ h' => h'.elim)) fun _ _ h' => h'.elim))

/-- the tests of a clause -/
def PTs (X : Cx) (ifs : List Expr) (t : TT) : Prop :=
  ∀ (pins : List (Addr × Obj)) (s : Shared) (σ : St) (H : Hp) (Q : Bool → Hp → Prop), Inv X pins σ H s → t σ H Q →
    wpAny (model X.prog X.w) X.A (forIn ifs true fun c r => if r = true then do let ok ← isTrue c X.env (eval c X.env); pure (ForInStep.yield ok) else pure (ForInStep.yield r)) (TP X pins σ Q) X.xe s
def tYes : TT := fun _ H Q => Q true H
theorem tyes {σ : St} {H : Hp} {A B : Hp → Prop} (h : A H) : tYes σ H (fun b H3 => if b = true then A H3 else B H3) := by
  show (if true = true then A H else B H)
  exact iteT h
theorem pts_nil {X : Cx} : PTs X [] tYes := fun _ _ _ H _ I h => wpAny_tests_nil ⟨H, I, h⟩
theorem pts_one {X : Cx} {c : Expr} {t : TT} (h : PT X c t) : PTs X [c] t := fun pins s σ H Q I q => wpAny_tests_one (h pins s σ H Q I q)

/-- the cells that a block takes along -/
def clOf (cells : List (Str × Addr)) : List (Str × NameKind) → List (Str × Addr) → List (Str × Addr)
  | [], acc => acc
  | (n, k) :: r, acc => if (k == .free) = true then (match cells.lookup n with | some c => clOf cells r ((n, c) :: acc) | none => clOf cells r acc) else clOf cells r acc

theorem clOf_sub {cells : List (Str × Addr)} {x : Str} {c : Addr} : ∀ (names : List (Str × NameKind)) (acc : List (Str × Addr)), (clOf cells names acc).lookup x = some c → acc.lookup x = some c ∨ cells.lookup x = some c
  | [], acc, h => .inl h
  | (n, k) :: r, acc, h => by
    unfold clOf at h
    split at h
    · cases hc : cells.lookup n with
      | none => rw [hc] at h; exact clOf_sub r acc h
      | some c' =>
        rw [hc] at h
        rcases clOf_sub r _ h with q | q
        · rw [List.lookup_cons] at q
          cases hx : x == n with
          | true =>
            rw [hx] at q
            have e : x = n := by simpa using hx
            have e2 : c' = c := by simpa using q
            rw [e, hc, e2]
            exact .inr rfl
          | false => rw [hx] at q; exact .inl q
        · exact .inr q
    · exact clOf_sub r acc h

theorem clOf_acc {cells : List (Str × Addr)} {x : Str} : ∀ (names : List (Str × NameKind)) (acc : List (Str × Addr)), (∃ c, acc.lookup x = some c) → ∃ c, (clOf cells names acc).lookup x = some c
  | [], acc, h => h
  | (n, k) :: r, acc, h => by
    unfold clOf
    split
    · cases hc : cells.lookup n with
      | none => exact clOf_acc r acc h
      | some c' =>
        refine clOf_acc r _ ?_
        rw [List.lookup_cons]
        cases hx : x == n with
        | true => exact ⟨c', rfl⟩
        | false => exact h
    · exact clOf_acc r acc h
theorem clOf_has {cells : List (Str × Addr)} {x : Str} (hx : ∃ c, cells.lookup x = some c) : ∀ (names : List (Str × NameKind)) (acc : List (Str × Addr)), (x, NameKind.free) ∈ names → ∃ c, (clOf cells names acc).lookup x = some c
  | [], acc, h => by simp at h
  | (n, k) :: r, acc, h => by
    rcases List.mem_cons.mp h with e | h
    · cases e
      obtain ⟨c, hc⟩ := hx
      unfold clOf
      rw [if_pos (by rfl), hc]
      exact clOf_acc r _ ⟨c, by rw [List.lookup_cons]; simp⟩
    · unfold clOf
      split
      · cases hc : cells.lookup n with
        | none => exact clOf_has hx r acc h
        | some c' => exact clOf_has hx r _ h
      · exact clOf_has hx r acc h

theorem closure_go {env : Env} : ∀ (names : List (Str × NameKind)) (acc : List (Str × Addr)), (∀ y ∈ names, y.2 = .free → ∃ c, env.cells.lookup y.1 = some c) →
    (forIn names acc fun (x : Str × NameKind) (cs : List (Str × Addr)) => (if (x.2 == .free) = true then (do let a ← cellOf env x.1; pure (ForInStep.yield ((x.1, a) :: cs))) else pure (ForInStep.yield cs) : Sem (ForInStep (List (Str × Addr))))) = pure (clOf env.cells names acc)
  | [], acc, _ => rfl
  | (n, k) :: r, acc, h => by
    rw [List.forIn_cons]
    have hr : ∀ y ∈ r, y.2 = .free → ∃ c, env.cells.lookup y.1 = some c := fun y hy => h y (List.mem_cons_of_mem _ hy)
    unfold clOf
    cases hk : (k == NameKind.free) with
    | true =>
      obtain ⟨c, hc⟩ := h (n, k) List.mem_cons_self (by simpa using hk)
      simp only [hk, if_true, cellOf, hc, pure_bind]
      exact closure_go r _ hr
    | false =>
      simp only [hk, Bool.false_eq_true, if_false, pure_bind]
      exact closure_go r _ hr
theorem closureFor_eq {scope : Scope} {env : Env} (h : ∀ y ∈ scope.names, y.2 = .free → ∃ c, env.cells.lookup y.1 = some c) : closureFor scope env = pure (clOf env.cells scope.names []) := by
  have e := closure_go scope.names [] h
  simp only [closureFor]
  simp only [bind_pure]
  exact e

theorem lookup_relabel {env : Env} {x : Str} : ∀ (names : List (Str × NameKind)),
    (names.map fun (n, k) => if (k == NameKind.free && env.scope.kind == .function && env.kindOf n == some .cell) then (n, NameKind.cell) else (n, k)).lookup x =
      (names.lookup x).map fun k => if (k == NameKind.free && env.scope.kind == .function && env.kindOf x == some .cell) = true then NameKind.cell else k
  | [] => rfl
  | (n, k) :: r => by
    have ih := lookup_relabel (env := env) (x := x) r
    rw [List.map_cons]
    show List.lookup x ((if (k == NameKind.free && env.scope.kind == .function && env.kindOf n == some .cell) = true then (n, NameKind.cell) else (n, k)) :: _) = _
    by_cases c : (k == NameKind.free && env.scope.kind == .function && env.kindOf n == some .cell) = true
    · rw [if_pos c, List.lookup_cons, List.lookup_cons]
      cases hx : x == n with
      | true =>
        have e : x = n := by simpa using hx
        subst e
        show some NameKind.cell = Option.map _ (some k)
        rw [Option.map_some, if_pos c]
      | false => exact ih
    · rw [if_neg c, List.lookup_cons, List.lookup_cons]
      cases hx : x == n with
      | true =>
        have e : x = n := by simpa using hx
        subst e
        show some k = Option.map _ (some k)
        rw [Option.map_some, if_neg c]
      | false => exact ih

/-- the context of a comprehension's block -/
def cxComp (X : Cx) (pl : List (Addr × Obj)) (N' : List Str) (scope : Scope) (fp : List Addr) (s3 : Shared) (H3 : Hp) : Cx where
  prog := X.prog
  w := X.w
  K := X.K
  mg := X.mg
  base := X.base
  A := X.A
  N := N'
  s₀ := s3
  H₀ := H3
  env := compEnvC scope (clOf X.env.cells scope.names []) s3.heap.objs.size X.env
  outer := X.stack
  stack := X.stack
  ex := fp
  fn := fun _ => false
  calm := X.calm
  pn := pl
  xe := fun _ _ => False

/-- the captured names: each stands in the frame outside as a cell -/
def CapOk (X : Cx) (scope : Scope) : List Str → List Nat → Prop
  | [], [] => True
  | x :: cn, j :: ci => X.N[j]? = some x ∧ X.env.kindOf x = some .cell ∧ scope.names.lookup x = some .free ∧ CapOk X scope cn ci
  | _, _ => False
theorem CapOk.get {X : Cx} {scope : Scope} : ∀ {cn : List Str} {ci : List Nat} {k : Nat} {x : Str}, CapOk X scope cn ci → cn[k]? = some x → ∃ j, ci[k]? = some j ∧ X.N[j]? = some x ∧ X.env.kindOf x = some .cell ∧ scope.names.lookup x = some .free
  | [], _, _, _, _, h => by simp at h
  | _ :: _, [], _, _, c, _ => c.elim
  | y :: cn, j :: ci, 0, x, c, h => by
    obtain ⟨a, b, b', _⟩ := c
    have e : y = x := by simpa using h
    subst e
    exact ⟨j, rfl, a, b, b'⟩
  | y :: cn, j :: ci, k + 1, x, c, h => by
    obtain ⟨j', h1, h2⟩ := CapOk.get (k := k) c.2.2.2 (by simpa using h)
    exact ⟨j', by simpa using h1, h2⟩

/-- what the block's text must be -/
structure CompSc (X : Cx) (scope : Scope) : Prop where
  kind : scope.kind = .function
  nocell : ∀ y ∈ scope.names, y.2 ≠ .cell
  names : ∀ y ∈ scope.names, y.2 = .local → scope.names.lookup y.1 = some .local
  free : ∀ y ∈ scope.names, y.2 = .free → X.env.kindOf y.1 = some .cell

section
variable {X : Cx} {pins : List (Addr × Obj)} {σ : St} {H3 : Hp} {s3 : Shared} {scope : Scope} {fp : List Addr} {N' own cn : List Str} {ci : List Nat} {cv : List V}

theorem comp_has (ok : X.Ok) (S : CompSc X scope) {x : Str} (h : (relabel scope X.env).names.lookup x = some .cell ∨ (relabel scope X.env).names.lookup x = some .free) :
    ∃ c, (clOf X.env.cells scope.names []).lookup x = some c := by
  have e : (relabel scope X.env).names.lookup x = (scope.names.lookup x).map fun k => if (k == NameKind.free && X.env.scope.kind == .function && X.env.kindOf x == some .cell) = true then NameKind.cell else k := lookup_relabel scope.names
  have hf : scope.names.lookup x = some .free := by
    cases q : scope.names.lookup x with
    | none => rw [e, q] at h; simp at h
    | some k =>
      by_cases hk : k = .free
      · rw [hk]
      · have hb : (k == NameKind.free) = false := by simpa using hk
        rw [e, q] at h
        simp only [Option.map_some, hb, Bool.false_and, Bool.false_eq_true, if_false, Option.some.injEq] at h
        rcases h with h | h
        · exact absurd h (S.nocell _ (PySem.mem_of_lookup q))
        · exact absurd h hk
  exact clOf_has (ok.has x (.inl (S.free _ (PySem.mem_of_lookup hf) rfl))) scope.names [] (PySem.mem_of_lookup hf)
theorem comp_cl {x : Str} {c : Addr} (h : (clOf X.env.cells scope.names []).lookup x = some c) : X.env.cells.lookup x = some c := by
  rcases clOf_sub _ _ h with q | q
  · simp at q
  · exact q

theorem comp_ok (I : Inv X pins σ H3 s3) (S : CompSc X scope) (f : ∀ b ∈ fp, FpOk X pins H3 b) (fz : ∀ b ∈ fp, b < s3.heap.objs.size) : (cxComp X (X.pn ++ pins) N' scope fp s3 H3).Ok where
  mod := I.ok.mod
  kind := S.kind
  glob := I.ok.glob
  blt := I.ok.blt
  above := Nat.le_refl _
  inj := fun x y c h1 h2 => I.ok.inj x y c (comp_cl h1) (comp_cl h2)
  has := fun x h => comp_has I.ok S h
  cab := fun x c h => by cases h
  hd := I.ok.hd
  frames := I.ok.frames
  stk := .inl rfl
  exf := fun b hb => ⟨Nat.ne_of_lt (fz b hb), fun x c h => (f b hb).2.2.2.2.1 x c (comp_cl h)⟩
  bs := I.bs
  bsz := Nat.le_trans I.ok.bsz I.sz
  noex := fun b o e hb => by
    rcases (f b hb).2.2.2.1 with z | z
    · exact I.ok.noex b o e z
    · exact absurd (Nat.lt_of_lt_of_le (Heap.lt_size e) (Nat.le_trans I.ok.bsz z)) (Nat.lt_irrefl _)
  exfs := fun b hb z => by
    rcases List.mem_cons.mp (I.stkSub b z) with q | q
    · exact (f b hb).2.1 q
    · exact (f b hb).2.2.1 q
  funs := I.stack
  frf := I.stkFree

theorem comp_inv {h1 : Heap} {t : Nat} (I : Inv X pins σ H3 s3) (S : CompSc X scope) (f : ∀ b ∈ fp, FpOk X pins H3 b) (fz : ∀ b ∈ fp, b < s3.heap.objs.size)
    (hN : N' = own ++ cn) (hc : CapOk X scope cn ci) (hv : ci.map (fun j => σ[j]?) = cv.map fun v => some (some v)) (hl : cn.length = ci.length)
    (hns : h1.Ns s3.heap.objs.size (fun _ => none)) (hk : ∀ b o, s3.heap.get? b = some o → h1.get? b = some o) :
    Inv (cxComp X (X.pn ++ pins) N' scope fp s3 H3) [] (List.replicate own.length none ++ cv.map some) H3 { s3 with heap := h1, toks := t } := by
  have lenv : cv.length = ci.length := by
    have := congrArg List.length hv
    simpa using this.symm
  refine ⟨comp_ok I S f fz, rfl, I.bare, Un.kept hk, ⟨_, hns, fun i x v e1 e2 e3 => ?_⟩, fun x c e => ?_, I.hok.fresh (Nat.le_refl _), fun x c e => I.freeC x c (comp_cl e), fun p hp => ?_, I.hok.kept hk, ?_⟩
  · -- a captured name
    have hi : own.length ≤ i := by
      by_cases hi : own.length ≤ i
      · exact hi
      · rw [List.getElem?_append_left (by simpa using hi), List.getElem?_replicate] at e2
        split at e2 <;> cases e2
    rw [List.getElem?_append_right (by simpa using hi), List.length_replicate, List.getElem?_map] at e2
    have e1' : (own ++ cn)[i]? = some x := by rw [← hN]; exact e1
    rw [List.getElem?_append_right hi] at e1'
    obtain ⟨j, hj, hNj, hkx, hfr⟩ := hc.get e1'
    have hcv : cv[i - own.length]? = some v := by
      cases q : cv[i - own.length]? with
      | none => rw [q] at e2; cases e2
      | some v' => rw [q] at e2; cases e2; rfl
    have hσ : σ[j]? = some (some v) := by
      have := congrArg (fun l : List (Option (Option V)) => l[i - own.length]?) hv
      simp only [List.getElem?_map, hj, hcv, Option.map_some, Option.some.injEq] at this
      exact this
    obtain ⟨m, _, hl'⟩ := I.loc
    obtain ⟨u, r, q⟩ := hl' j x v hNj hσ (.inr (.inl hkx))
    have hkd : (relabel scope X.env).names.lookup x = some .cell ∨ (relabel scope X.env).names.lookup x = some .free := by
      have e : (relabel scope X.env).names.lookup x = (scope.names.lookup x).map fun k => if (k == NameKind.free && X.env.scope.kind == .function && X.env.kindOf x == some .cell) = true then NameKind.cell else k := lookup_relabel scope.names
      rw [e, hfr, Option.map_some]
      by_cases cc : (NameKind.free == NameKind.free && X.env.scope.kind == .function && X.env.kindOf x == some .cell) = true
      · rw [if_pos cc]; exact .inl rfl
      · rw [if_neg cc]; exact .inr rfl
    obtain ⟨c', hc'⟩ := comp_has I.ok S hkd
    refine ⟨u, r, .inr ⟨hkd, c', hc', ?_⟩⟩
    rcases q with ⟨z, _⟩ | ⟨_, c, hcc, o, ho, hd⟩
    · rw [hkx] at z; cases z
    · have e : c = c' := Option.some.inj (hcc.symm.trans (comp_cl hc'))
      subst e
      exact ⟨o, hk c o ho, hd⟩
  · obtain ⟨v, o, ho, hd⟩ := I.cell x c (comp_cl e)
    exact ⟨v, o, hk c o ho, hd⟩
  · have hp' : p ∈ X.pn ++ pins := by rw [List.append_nil] at hp; exact hp
    obtain ⟨e, n, ne, nf, d⟩ := I.pin p hp'
    refine ⟨hk _ _ e, n, Nat.ne_of_lt (Heap.lt_size e), fun z => ?_, d⟩
    rcases List.mem_cons.mp (I.stkSub p.1 z) with q | q
    · exact ne q
    · exact nf q
  · show (List.replicate own.length none ++ cv.map some).length = N'.length
    rw [hN, List.length_append, List.length_append, List.length_replicate, List.length_map, lenv, hl]

/-- a reading of [e for target in iter if ..]: own many names of its own, the frame's slots ci taken along; D is the new list. W: the invariant by the turn, a measure, the items so far, the heap (the list in it) -/
def CompRd (J : It) (own : Nat) (cv : List V) (g : TG) (ti : TT) (te : TE) (D : Addr) (H1 : Hp) (Q : VK) : Prop := ∃ W : Nat → Nat → List V → Hp → Prop, (∃ m, W 0 m [] (upd H1 D (.lst []))) ∧ ∀ i m ys H, W i m ys H →
    (J.stop i H ∧ Q (.ref D) H) ∨ (J.go i H ∧ ys.length < sizeLine ∧ ∃ N : List V → Hp → Prop, (∀ ys' H', N ys' H' → ∃ m', m' < m ∧ W (i + 1) m' ys' H') ∧
      ∀ x H', J.yld i H x H' → g x (List.replicate own none ++ cv.map some) H' fun σ2 H2 => (σ2.length = own + cv.length ∧ σ2.drop own = cv.map some) ∧
        ti σ2 H2 fun b H3 => if b = true then te σ2 H3 fun y H4 => H4 D = some (.lst ys) ∧ N (ys ++ [y]) (upd H4 D (.lst (ys ++ [y]))) else N ys H3)
def tComp (own : Nat) (ci : List Nat) (wi : TI) (g : TG) (ti : TT) (te : TE) : TE := fun σ H Q => wi σ H fun J H1 => ∃ cv : List V, ci.map (fun j => σ[j]?) = cv.map (fun v => some (some v)) ∧
  ∀ D, H1 D = none → CompRd J own cv g ti te D H1 Q

theorem comp_core {elt target iter : Expr} {ifs : List Expr} {pos cpos : Pos} {wi : TI} {g : TG} {ti : TT} {te : TE} {use : Option (Value → Sem Unit)} {Q0 : Value → Shared → Prop} {s : Shared} {H : Hp} {Q : VK} (hcalm : X.calm = true) (S : CompSc X scope) (hc : CapOk X scope cn ci) (hl : cn.length = ci.length)
    (hi : PI X target iter wi) (hg : ∀ pl fp s3 H3, PG (cxComp X pl (own ++ cn) scope fp s3 H3) target g) (ht : ∀ pl fp s3 H3, PTs (cxComp X pl (own ++ cn) scope fp s3 H3) ifs ti)
    (he : ∀ pl fp s3 H3, PE (cxComp X pl (own ++ cn) scope fp s3 H3) elt te) (hs : ∀ x, foldedSetIterable iter X.env x = pure x) (I : Inv X pins σ H s) (h : tComp own.length ci wi g ti te σ H Q)
    (fin : ∀ (D C : Addr) (H5 : Hp) (s6 : Shared) (m6 : Str → Option Value), Inv X pins σ H5 s6 → s6.heap.Ns C m6 → H5 C = none → C ≠ X.env.locals → X.s₀.heap.objs.size ≤ C → (∀ x c, X.env.cells.lookup x = some c → c ≠ C) →
      (∀ p ∈ X.pn ++ pins, p.1 ≠ C) → Q (.ref D) H5 → compPost (model X.prog X.w) X.A X.xe use Q0 (.ref D) C (.ok .next) s6) :
    wpAny (model X.prog X.w) X.A (comprehension (.ListComp elt [⟨target, iter, ifs, 0⟩] scope pos) scope X.env cpos (newList []) false (eval iter X.env) use) Q0 X.xe s := by
  have hcl : closureFor scope X.env = pure (clOf X.env.cells scope.names []) := closureFor_eq fun y hy hf => I.ok.has y.1 (.inl (S.free y hy hf))
  refine wpAny_comprehension_free (use := use) rfl hs hcl S.kind S.names ?_
  refine thn (hi pins s σ H _ I h) fun v s1 h1 => thn h1 fun itv s2 h2 => ?_
  obtain ⟨it, fp, tn, J, H2, e, I2, T, st2, f2, cv, hv, hD⟩ := h2
  subst e
  have lenv : cv.length = ci.length := by
    have := congrArg List.length hv
    simpa using this.symm
  -- the new list, the block's frame
  have I3 := I2.lnew (ys := []) (its := []) (t' := s2.toks) .nil (Nat.zero_le _)
  obtain ⟨W, ⟨m0, w0⟩, turn⟩ := hD s2.heap.objs.size I2.fresh
  have fz : ∀ b ∈ fp, b < s2.heap.objs.size := fun b hb => by
    obtain ⟨o, ho, _⟩ := T.obj _ _ st2 b hb
    exact Heap.lt_size ho
  refine wpAny_newObj_type ?_
  refine wpAny_newFunctionEnv S.nocell (by intro y hy; simp at hy) (fun h4 hns4 hsb4 => ?_) S.kind
  generalize hs3 : ({ s2 with heap := s2.heap.push { cls := .type "list", dict := none, data := .seq ([] : List Value).toArray } } : Shared) = s3 at hns4 hsb4 ⊢
  have I3' : Inv X pins σ (upd H2 s2.heap.objs.size (.lst [])) s3 := by rw [← hs3]; exact I3
  have hsz3 : s3.heap.objs.size = s2.heap.objs.size + 1 := by rw [← hs3]; exact Heap.size_push ..
  have k23 : ∀ b o, s2.heap.get? b = some o → s3.heap.get? b = some o := fun b o e => by rw [← hs3]; exact Heap.get?_push_of_some _ e
  have k34 : ∀ b o, s3.heap.get? b = some o → h4.get? b = some o := fun b o e => hsb4.extBut b o (Nat.ne_of_lt (Heap.lt_size e)) (Heap.get?_push_of_some _ e)
  have nD : ∀ b ∈ fp, b ≠ s2.heap.objs.size := fun b hb => Nat.ne_of_lt (fz b hb)
  have f3 : ∀ b ∈ fp, FpOk X pins (upd H2 s2.heap.objs.size (.lst [])) b := fun b hb => ⟨by rw [upd_ne (nD b hb)]; exact (f2 b hb).1, (f2 b hb).2⟩
  have fz3 : ∀ b ∈ fp, b < s3.heap.objs.size := fun b hb => by rw [hsz3]; exact Nat.lt_succ_of_lt (fz b hb)
  have I4 : Inv (cxComp X (X.pn ++ pins) (own ++ cn) scope fp s3 (upd H2 s2.heap.objs.size (.lst []))) [] (List.replicate own.length none ++ cv.map some) (upd H2 s2.heap.objs.size (.lst [])) { s3 with heap := h4, toks := s3.toks + ([] : List (Str × Value)).length } :=
    comp_inv I3' S f3 fz3 rfl hc hv hl hns4 k34
  have st4 : tn 0 h4 := T.keep _ _ _ st2 fun b hb o e => k34 b o (k23 b o e)
  generalize hX : cxComp X (X.pn ++ pins) (own ++ cn) scope fp s3 (upd H2 s2.heap.objs.size (.lst [])) = X' at I4
  have hg' : PG X' target g := by rw [← hX]; exact hg _ _ _ _
  have ht' : PTs X' ifs ti := by rw [← hX]; exact ht _ _ _ _
  have he' : PE X' elt te := by rw [← hX]; exact he _ _ _ _
  have ePr : X'.prog = X.prog := by rw [← hX]; rfl
  have eW : X'.w = X.w := by rw [← hX]; rfl
  have eK : X'.K = X.K := by rw [← hX]; rfl
  have eA : X'.A = X.A := by rw [← hX]; rfl
  have eE : X'.env = compEnvC scope (clOf X.env.cells scope.names []) s3.heap.objs.size X.env := by rw [← hX]; rfl
  have eXe : X'.xe = fun _ _ => False := by rw [← hX]; rfl
  have eC : X'.calm = true := by rw [← hX]; exact hcalm
  have eex : X'.ex = fp := by rw [← hX]; rfl
  have epn : X'.pn = X.pn ++ pins := by rw [← hX]; rfl
  have es0 : X'.s₀ = s3 := by rw [← hX]; rfl
  have eH0 : X'.H₀ = upd H2 s2.heap.objs.size (.lst []) := by rw [← hX]; rfl
  have efs : X'.fs = frs X.stack := by rw [← hX]; rfl
  have ok' := I4.ok
  have stat : ∀ {H' : Hp}, (∀ b ∈ fp, H' b = none) → ∀ b ∈ fp, FpOk X' [] H' b := fun hn b hb => by
    have hb' : b ∈ X'.ex := by rw [eex]; exact hb
    refine ⟨hn b hb, (ok'.exf b hb').1, ok'.exfs b hb', .inl hb', (ok'.exf b hb').2, fun p hp => ?_⟩
    rw [epn, List.append_nil] at hp
    exact (f2 b hb).2.2.2.2.2 p hp
  have wk : ∀ (σ2 : St), (σ2.length = own.length + cv.length ∧ σ2.drop own.length = cv.map some) → ∀ {pl : List (Addr × Obj)} {H' : Hp} {s' : Shared}, Inv X' pl σ2 H' s' → Inv X' pl (List.replicate own.length none ++ cv.map some) H' s' := fun σ2 hq pl H' s' I' => by
    refine I'.weak (by rw [hq.1, List.length_append, List.length_replicate, List.length_map]) fun i v hi => ?_
    by_cases hlt : i < own.length
    · rw [List.getElem?_append_left (by simpa using hlt), List.getElem?_replicate] at hi
      split at hi <;> cases hi
    · rw [List.getElem?_append_right (by simpa using hlt), List.length_replicate, ← hq.2, List.getElem?_drop] at hi
      rw [show own.length + (i - own.length) = i by omega] at hi
      exact hi
  -- the loop
  have loop : codeAny (model X.prog X.w) X.A (.compLoop (.ListComp elt [⟨target, iter, ifs, 0⟩] scope pos) 0 (.ref it) (.ref s2.heap.objs.size) (compEnvC scope (clOf X.env.cells scope.names []) s3.heap.objs.size X.env))
      (compPost (model X.prog X.w) X.A X.xe use Q0 (.ref s2.heap.objs.size) s3.heap.objs.size) { s3 with heap := h4, toks := s3.toks + ([] : List (Str × Value)).length } := by
    refine compLoop_gen (fun n s' => ∃ i ys H', Inv X' [] (List.replicate own.length none ++ cv.map some) H' s' ∧ tn i s'.heap ∧ (∀ b ∈ fp, H' b = none) ∧ W i n ys H') ?_ m0
      ⟨0, [], _, I4, st4, fun b hb => (f3 b hb).1, w0⟩
    rintro n s5 ⟨i, ys, H5, I5, st5, fr5, w5⟩
    rcases turn i n ys H5 w5 with ⟨stop, qn⟩ | ⟨go, hsz, N, hN, step⟩
    · have d := T.done X' ePr eW eK eC i [] s5 _ H5 (fun _ _ => False) I5 (stat fr5) st5 stop
      rw [eA] at d
      refine thn d fun r s6 ⟨hr, I6⟩ => ?_
      subst hr
      -- back to the frame outside
      obtain ⟨m6, hn6, _⟩ := I6.loc
      rw [eE] at hn6
      have hn6' : s6.heap.Ns s3.heap.objs.size m6 := hn6
      have un6 : Un (frs X.stack) fp (upd H2 s2.heap.objs.size (.lst [])) H5 s3.heap s6.heap := by
        have b6 := I6.base
        rw [efs, eex, eH0, es0] at b6
        exact b6
      have os6 : s6.os = s3.os := by have o6 := I6.os; rw [es0] at o6; exact o6
      have hok6 : HOk X.prog X.w H5 s6.heap := by have o6 := I6.hok; rw [ePr, eW] at o6; exact o6
      have I7 : Inv X pins σ H5 s6 := I3'.call' (ch := fp) os6 un6 hok6 I6.bare fun b hb => ⟨(f2 b hb).2.2.2.1, (f2 b hb).2.1, (f2 b hb).2.2.2.2.1, (f2 b hb).2.2.2.2.2⟩
      have fr6 : H5 s3.heap.objs.size = none := by
        have q := I6.free
        rw [eE] at q
        exact q
      refine fin s2.heap.objs.size s3.heap.objs.size H5 s6 m6 I7 hn6' fr6 (Nat.ne_of_gt I3'.lt) I3'.sz (fun x c e => ?_) (fun p hp => ?_) qn
      · obtain ⟨_, o, ho, _⟩ := I3'.cell x c e
        exact Nat.ne_of_lt (Heap.lt_size ho)
      · exact Nat.ne_of_lt (Heap.lt_size (I3'.pin p hp).1)
    · have d := T.item X' ePr eW eK eC i [] s5 _ H5 (fun _ _ => False) I5 (stat fr5) st5 go
      rw [eA] at d
      refine thn d fun r s6 ⟨u, hr, h6⟩ => ?_
      subst hr
      refine thn h6 fun _ s7 ⟨x, H7, I7, r7, y7, st7, fr7⟩ => ?_
      have I7' := I7.pinned (stat fr7) (T.obj _ _ st7)
      have g7 := hg' _ s7 _ H7 x u _ I7' r7 (step x H7 y7)
      rw [ePr, eW, eA, eE, eXe] at g7
      refine thn g7 fun _ s8 ⟨σ8, H8, I8, q8, ti8⟩ => ?_
      have t8 := ht' _ s8 σ8 H8 _ I8 ti8
      rw [ePr, eW, eA, eE, eXe] at t8
      refine thn t8 fun ok s9 ⟨H9, I9, q9⟩ => ?_
      have again : ∀ {ys' : List V} {H' : Hp} {s' : Shared}, Inv X' ([] ++ pinsAt fp s7.heap) σ8 H' s' → N ys' H' →
          ∃ m, m < n ∧ ∃ i ys H', Inv X' [] (List.replicate own.length none ++ cv.map some) H' s' ∧ tn i s'.heap ∧ (∀ b ∈ fp, H' b = none) ∧ W i m ys H' := fun {ys' H' s'} I' n' => by
        obtain ⟨m', hm, w'⟩ := hN ys' H' n'
        refine ⟨m', hm, i + 1, ys', H', (wk σ8 q8 I').unpinned, T.keep _ _ _ st7 fun b hb o e => (I'.pin (b, o) (List.mem_append_right _ (List.mem_append_right _ (mem_pinsAt hb e)))).1, fun b hb => ?_, w'⟩
        obtain ⟨o, e, _⟩ := T.obj _ _ st7 b hb
        exact (I'.pin (b, o) (List.mem_append_right _ (List.mem_append_right _ (mem_pinsAt hb e)))).2.1
      cases ok with
      | false => exact again I9 q9
      | true =>
        have e9 := he' _ s9 σ8 H9 _ I9 q9
        rw [ePr, eW, eA, eE, eXe] at e9
        refine thn e9 fun u10 s10 ⟨y, H10, I10, r10, hD10, n10⟩ => ?_
        have a10 := mt_append (X := X') _ s10 σ8 H10 (.ref s2.heap.objs.size) [y] (.ref s2.heap.objs.size) [u10] (fun _ H' => N (ys ++ [y]) H') I10 rfl (.cons r10 .nil) ⟨_, _, _, rfl, rfl, hD10, hsz, n10⟩
        rw [ePr, eW, eA, eXe] at a10
        exact thn a10 fun _ s11 ⟨_, H11, I11, _, n11⟩ => again I11 n11
  exact codeAny_compStart_list loop (T.self X.A 0 _ _ _ st4 loop)
theorem pe_comp {elt target iter : Expr} {ifs : List Expr} {pos : Pos} {wi : TI} {g : TG} {ti : TT} {te : TE} (hcalm : X.calm = true) (S : CompSc X scope) (hc : CapOk X scope cn ci) (hl : cn.length = ci.length)
    (hi : PI X target iter wi) (hg : ∀ pl fp s3 H3, PG (cxComp X pl (own ++ cn) scope fp s3 H3) target g) (ht : ∀ pl fp s3 H3, PTs (cxComp X pl (own ++ cn) scope fp s3 H3) ifs ti)
    (he : ∀ pl fp s3 H3, PE (cxComp X pl (own ++ cn) scope fp s3 H3) elt te) (hs : ∀ x, foldedSetIterable iter X.env x = pure x := by intro _; rfl) :
    PE X (.ListComp elt [⟨target, iter, ifs, 0⟩] scope pos) (tComp own.length ci wi g ti te) := by
  intro pins s σ H Q I h
  rw [eval_ListComp]
  exact comp_core hcalm S hc hl hi hg ht he hs I h fun D C H5 s6 m6 I7 hn fr nL ge nC nP q => ⟨m6, hn, fun h' hs' => ⟨.ref D, H5, I7.turned (t' := s6.toks) (it := C) (fun b o hb e => hs'.extBut b o hb e) fr nL (.inr ge) nC nP, rfl, q⟩⟩
/-- name = [.. for ..], the name a local one on the same row: it is stored ahead of the block's end -/
theorem ps_setC {elt target iter : Expr} {ifs : List Expr} {pos pos' cpos : Pos} {wi : TI} {g : TG} {ti : TT} {te : TE} {i : Nat} {x : Str} (hN : X.N.Nodup) (hix : X.N[i]? = some x) (hx : Loc X.env.scope x) (hcalm : X.calm = true) (S : CompSc X scope) (hc : CapOk X scope cn ci) (hl : cn.length = ci.length)
    (hi : PI X target iter wi) (hg : ∀ pl fp s3 H3, PG (cxComp X pl (own ++ cn) scope fp s3 H3) target g) (ht : ∀ pl fp s3 H3, PTs (cxComp X pl (own ++ cn) scope fp s3 H3) ifs ti)
    (he : ∀ pl fp s3 H3, PE (cxComp X pl (own ++ cn) scope fp s3 H3) elt te) (hs : ∀ x, foldedSetIterable iter X.env x = pure x := by intro _; rfl)
    (hsw : swapsWith (.ListComp elt [⟨target, iter, ifs, 0⟩] scope cpos) (some (.Name x pos')) pos.line X.env = pure true := by rfl)
    (hf : X.fn x = true ∨ X.env.scope.names.lookup x = some .local := by first | exact .inl rfl | exact .inr rfl | assumption) :
    PS X (.Assign [.Name x pos'] (.ListComp elt [⟨target, iter, ifs, 0⟩] scope cpos) pos) (tAsg (tComp own.length ci wi g ti te) (gName i)) := by
  intro pins s σ H D I h
  rw [exec_Assign_Name_used _ _ _ _ hsw]
  refine wpAny_bind (wpAny_standAt (wpAny_bind ?_))
  show wpAny _ X.A (do let _ ← comprehension (.ListComp elt [⟨target, iter, ifs, 0⟩] scope cpos) scope X.env _ (newList []) false (eval iter X.env) (some (assign (.Name x pos') X.env))) _ _ s
  refine wpAny_bind (wpAny_mono (comp_core (use := some (assign (.Name x pos') X.env)) (Q0 := fun _ s' => SP X pins D .next s') hcalm S hc hl hi hg ht he hs I h (fun D' C H5 s6 m6 I7 hn fr nL ge nC nP q => ?_)) (fun _ s' hq => wpAny_pure (wpAny_pure hq)) fun _ _ e => e)
  obtain ⟨oC, es, ep, hoC, hd, r1⟩ := hn
  have nf : C ∉ X.fs := fun hb => by
    obtain ⟨_, o, ho, _⟩ := I7.ok.funs.mem hb
    exact absurd (Nat.lt_of_lt_of_le (Heap.lt_size ho) ge) (Nat.lt_irrefl _)
  have I7' : Inv X (pins ++ [(C, oC)]) σ H5 s6 := I7.pins_of fun p hp => by
    rcases List.mem_append.mp hp with z | z
    · exact I7.pin p (List.mem_append_right _ z)
    · rw [List.mem_singleton.mp z]
      exact ⟨hoC, fr, nL, nf, fun v e => by rw [hd] at e; cases e⟩
  show wpAny _ X.A (assign (.Name x pos') X.env (.ref D')) _ _ s6
  refine wpAny_assign_Name (store_ok I7' hN hix hx (show RelV (.ref D') (.ref D') from rfl) (fun s' I' => ?_) hf)
  have hC' := (I'.pin (C, oC) (List.mem_append_right _ (List.mem_append_right _ (List.mem_singleton.mpr rfl)))).1
  refine ⟨m6, ⟨oC, es, ep, hC', hd, r1⟩, fun h' hs' => ⟨_, H5, ?_, q⟩⟩
  have I2 : Inv X pins (σ.set i (some (.ref D'))) H5 s' := I'.pins_of fun p hp => I'.pin p (List.mem_append_right _ (List.mem_append_left _ hp))
  exact I2.turned (t' := s'.toks) (it := C) (fun b o hb e => hs'.extBut b o hb e) fr nL (.inr ge) nC nP
end
/-! ### within a block -/
def cscOk (outer inner : Scope) : Bool := inner.names.all fun y => (y.2 != .cell) && (y.2 != .local || inner.names.lookup y.1 == some .local) && (y.2 != .free || outer.names.lookup y.1 == some .cell)
theorem csc {X : Cx} {scope : Scope} (hk : scope.kind = .function) (h : cscOk X.env.scope scope = true) : CompSc X scope := by
  have a := List.all_eq_true.mp h
  refine ⟨hk, fun y hy e => ?_, fun y hy e => ?_, fun y hy e => ?_⟩
  · have := a y hy
    rw [e] at this
    simp at this
  · have := a y hy
    rw [e] at this
    simpa using this
  · have := a y hy
    rw [e] at this
    have h2 : X.env.scope.names.lookup y.1 = some .cell := by simpa using this
    exact h2
theorem nd_of {l : List Str} (h : decide l.Nodup = true) : l.Nodup := of_decide_eq_true h
section
variable {X : Cx} {pl : List (Addr × Obj)} {N' : List Str} {sc : Scope} {fp : List Addr} {s3 : Shared} {H3 : Hp}
theorem ix_tupC : IxR (cxComp X pl N' sc fp s3 H3) (rIxT X.K) := ix_tup
theorem op_notInC : OpR (cxComp X pl N' sc fp s3 H3) (compareOp .NotIn) (rIn X.K true) := op_notIn_seq
end
/-! ### the forms one uses -/
theorem comp_list {K : PySem.W.Frag} {a : Addr} {xs : List V} {own : Nat} {g : TG} {ti : TT} {te : TE} {cv : List V} {D : Addr} {H1 : Hp} {Q : VK} (Pv : Nat → List V → Hp → Prop) (h0 : Pv 0 [] (upd H1 D (.lst []))) (hl : ∀ i ys H, Pv i ys H → SqL K H a xs) (hz : ∀ i ys H, Pv i ys H → ys.length < sizeLine)
    (hs : ∀ i x ys H, xs[i]? = some x → Pv i ys H → g x (List.replicate own none ++ cv.map some) H fun σ2 H2 => (σ2.length = own + cv.length ∧ σ2.drop own = cv.map some) ∧
      ti σ2 H2 fun b H3 => if b = true then te σ2 H3 fun y H4 => H4 D = some (.lst ys) ∧ Pv (i + 1) (ys ++ [y]) (upd H4 D (.lst (ys ++ [y]))) else Pv (i + 1) ys H3)
    (hd : ∀ ys H, Pv xs.length ys H → Q (.ref D) H) :
    CompRd (Itl K a) own cv g ti te D H1 Q := by
  refine ⟨fun i m ys H => m = xs.length - i ∧ i ≤ xs.length ∧ Pv i ys H, ⟨xs.length, rfl, Nat.zero_le _, h0⟩, ?_⟩
  rintro i m ys H ⟨rfl, hi, p⟩
  have q := hl i ys H p
  by_cases hlt : i < xs.length
  · refine .inr ⟨⟨xs, xs[i], q, by simp [hlt]⟩, hz i ys H p, Pv (i + 1), fun ys' H' p' => ⟨xs.length - (i + 1), by omega, rfl, hlt, p'⟩, fun x H' y => ?_⟩
    obtain ⟨e, y⟩ := y
    subst e
    exact hs i x ys _ (y xs q) p
  · have e : i = xs.length := by omega
    subst e
    exact .inl ⟨⟨xs, q, Nat.le_refl _⟩, hd ys H p⟩
theorem comp_tup {K : PySem.W.Frag} {a : Addr} {xs : List V} {own : Nat} {g : TG} {ti : TT} {te : TE} {cv : List V} {D : Addr} {H1 : Hp} {Q : VK} (Pv : Nat → List V → Hp → Prop) (h0 : Pv 0 [] (upd H1 D (.lst []))) (hl : ∀ i ys H, Pv i ys H → SqT K H a xs) (hz : ∀ i ys H, Pv i ys H → ys.length < sizeLine)
    (hs : ∀ i x ys H, xs[i]? = some x → Pv i ys H → g x (List.replicate own none ++ cv.map some) H fun σ2 H2 => (σ2.length = own + cv.length ∧ σ2.drop own = cv.map some) ∧
      ti σ2 H2 fun b H3 => if b = true then te σ2 H3 fun y H4 => H4 D = some (.lst ys) ∧ Pv (i + 1) (ys ++ [y]) (upd H4 D (.lst (ys ++ [y]))) else Pv (i + 1) ys H3)
    (hd : ∀ ys H, Pv xs.length ys H → Q (.ref D) H) :
    CompRd (Itt K a) own cv g ti te D H1 Q := by
  refine ⟨fun i m ys H => m = xs.length - i ∧ i ≤ xs.length ∧ Pv i ys H, ⟨xs.length, rfl, Nat.zero_le _, h0⟩, ?_⟩
  rintro i m ys H ⟨rfl, hi, p⟩
  have q := hl i ys H p
  by_cases hlt : i < xs.length
  · refine .inr ⟨⟨xs, xs[i], q, by simp [hlt]⟩, hz i ys H p, Pv (i + 1), fun ys' H' p' => ⟨xs.length - (i + 1), by omega, rfl, hlt, p'⟩, fun x H' y => ?_⟩
    obtain ⟨e, y⟩ := y
    subst e
    exact hs i x ys _ (y xs q) p
  · have e : i = xs.length := by omega
    subst e
    exact .inl ⟨⟨xs, q, Nat.le_refl _⟩, hd ys H p⟩
theorem comp_range {lo : Int} {n own : Nat} {g : TG} {ti : TT} {te : TE} {cv : List V} {D : Addr} {H1 : Hp} {Q : VK} (Pv : Nat → List V → Hp → Prop) (h0 : Pv 0 [] (upd H1 D (.lst []))) (hz : ∀ i ys H, Pv i ys H → ys.length < sizeLine)
    (hs : ∀ i ys H, i < n → Pv i ys H → g (.int (lo + i)) (List.replicate own none ++ cv.map some) H fun σ2 H2 => (σ2.length = own + cv.length ∧ σ2.drop own = cv.map some) ∧
      ti σ2 H2 fun b H3 => if b = true then te σ2 H3 fun y H4 => H4 D = some (.lst ys) ∧ Pv (i + 1) (ys ++ [y]) (upd H4 D (.lst (ys ++ [y]))) else Pv (i + 1) ys H3)
    (hd : ∀ ys H, Pv n ys H → Q (.ref D) H) :
    CompRd (Itr lo n) own cv g ti te D H1 Q := by
  refine ⟨fun i m ys H => m = n - i ∧ i ≤ n ∧ Pv i ys H, ⟨n, rfl, Nat.zero_le _, h0⟩, ?_⟩
  rintro i m ys H ⟨rfl, hi, p⟩
  by_cases hlt : i < n
  · refine .inr ⟨hlt, hz i ys H p, Pv (i + 1), fun ys' H' p' => ⟨n - (i + 1), by omega, rfl, hlt, p'⟩, fun x H' y => ?_⟩
    obtain ⟨e, y⟩ := y
    subst e
    subst y
    exact hs i ys _ hlt p
  · have e : i = n := by omega
    subst e
    exact .inl ⟨Nat.le_refl _, hd ys H p⟩
end L2
namespace SortT
open PySem.W PyProof.Rows
def ev {α : Type} (lt : Nat → Nat → Bool) : KasT α → α
  | .ret a => a
  | .ask i j k => ev lt (k (lt i j))
theorem ev_bind {α β : Type} (lt : Nat → Nat → Bool) (f : α → KasT β) : ∀ t : KasT α, ev lt (t.bind f) = ev lt (f (ev lt t))
  | .ret _ => rfl
  | .ask i j k => ev_bind lt f (k (lt i j))
section
variable {O : KeyOrd} {key : Nat → O.α}
def kk (key : Nat → O.α) (p : Array Nat) (i : Nat) : O.α := key (p.getD i 0)
def Sr (key : Nat → O.α) (p : Array Nat) (n : Nat) : Prop := ∀ i j, i ≤ j → j < n → O.kle (kk key p i) (kk key p j)
def Fl (key : Nat → O.α) (p : Array Nat) (n : Nat) : Prop := ∀ i j, i ≤ j → j < n → O.kle (kk key p j) (kk key p i)
theorem kk_congr {p q : Array Nat} {i j : Nat} (h : p[i]? = q[j]?) : kk key p i = kk key q j := by
  unfold kk; rw [Array.getD_eq_getD_getElem?, Array.getD_eq_getD_getElem?, h]
theorem kk_rev {p : Array Nat} {i j : Nat} (hj : j ≤ p.size) (k : Nat) : kk key (kas_rev p i j) k = if i ≤ k ∧ k < j then kk key p (i + j - 1 - k) else kk key p k := by
  have e := getElem?_mirror_all (i := i) hj k
  unfold kas_rev
  by_cases h1 : i ≤ k ∧ k < j
  · rw [if_pos h1] at e ⊢; exact kk_congr e
  · rw [if_neg h1] at e ⊢; exact kk_congr e
theorem kk_rev_eq {p : Array Nat} {i j : Nat} (hj : j ≤ p.size) (he : ∀ k, i ≤ k → k < j → kk key p k = kk key p (j - 1)) (k : Nat) : kk key (kas_rev p i j) k = kk key p k := by
  rw [kk_rev hj]
  split
  · rw [he _ (by omega) (by omega), he k (by omega) (by omega)]
  · rfl
theorem kk_bubble {p : Array Nat} {src d : Nat} (hs : src < p.size) (hd : d ≤ src) (k : Nat) :
    kk key (bubble p src d) k = if k = src - d then kk key p src else if src - d < k ∧ k ≤ src then kk key p (k - 1) else kk key p k := by
  have e := getElem?_bubble hs d hd k
  by_cases h1 : k = src - d
  · rw [if_pos h1] at e ⊢; exact kk_congr e
  · rw [if_neg h1] at e ⊢
    by_cases h2 : src - d < k ∧ k ≤ src
    · rw [if_pos h2] at e ⊢; exact kk_congr e
    · rw [if_neg h2] at e ⊢; exact kk_congr e
def lt_ (key : Nat → O.α) (i j : Nat) : Bool := O.blt (key i) (key j)
theorem rev_perm (p : Array Nat) (i j : Nat) : (kas_rev p i j).Perm p := mirror_perm _ _ _ _
theorem rev_size (p : Array Nat) (i j : Nat) : (kas_rev p i j).size = p.size := (rev_perm p i j).size_eq

theorem asc_ok {p : Array Nat} : ∀ (f n : Nat), 1 ≤ n → Sr key p n → ∃ m, ev (lt_ key) (kas_asc p f n) = m ∧ n ≤ m ∧ m ≤ n + f ∧ Sr key p m ∧ (m = n + f ∨ O.klt (kk key p m) (kk key p (m - 1)))
  | 0, n, _, hs => ⟨n, rfl, Nat.le_refl _, Nat.le_refl _, hs, .inl rfl⟩
  | f + 1, n, h1, hs => by
    show ∃ m, ev (lt_ key) (if lt_ key (p.getD n 0) (p.getD (n - 1) 0) = true then KasT.ret n else kas_asc p f (n + 1)) = m ∧ _
    cases hl : lt_ key (p.getD n 0) (p.getD (n - 1) 0) with
    | true => exact ⟨n, by simp [ev], Nat.le_refl _, by omega, hs, .inr hl⟩
    | false =>
      have hs' : Sr key p (n + 1) := fun i j hij hj => by
        by_cases hjn : j < n
        · exact hs i j hij hjn
        · have hj' : j = n := by omega
          subst hj'
          by_cases hi' : i = j
          · subst hi'; exact KeyOrd.kle_refl _
          · exact KeyOrd.kle_trans (hs i (j - 1) (by omega) (by omega)) hl
      obtain ⟨m, e, a, b, c, d⟩ := asc_ok f (n + 1) (by omega) hs'
      refine ⟨m, by simpa using e, by omega, by omega, c, ?_⟩
      rcases d with d | d
      · exact .inl (by omega)
      · exact .inr d

theorem tail3_ok {p : Array Nat} {n nrem : Nat} (h1 : 1 ≤ n) (hn : n ≤ nrem) (hz : nrem ≤ p.size) (hs : Fl key p n) :
    ∃ m q, ev (lt_ key) (kas_tail3 n nrem p) = (m, q) ∧ q.Perm p ∧ 1 ≤ m ∧ m ≤ nrem ∧ Sr key q m := by
  unfold kas_tail3
  have hs' : Sr key (kas_rev p 0 n) n := fun i j hij hj => by
    rw [kk_rev (by omega), kk_rev (by omega), if_pos (by omega), if_pos (by omega)]
    exact hs _ _ (by omega) (by omega)
  obtain ⟨m, e, a, b, c, _⟩ := asc_ok (nrem - n) n h1 hs'
  exact ⟨m, kas_rev p 0 n, by rw [ev_bind, e]; rfl, rev_perm _ _ _, by omega, by omega, c⟩

theorem desc_ok : ∀ (f n q : Nat) (p : Array Nat), 1 ≤ n → n + f ≤ p.size → Fl key p n → q + 1 ≤ n → (∀ i, n - (q + 1) ≤ i → i < n → kk key p i = kk key p (n - 1)) →
    ∃ p' n' q', ev (lt_ key) (kas_desc f p n q) = (p', n', q') ∧ p'.Perm p ∧ n ≤ n' ∧ n' ≤ n + f ∧ Fl key p' n' ∧ q' + 1 ≤ n' ∧ (∀ i, n' - (q' + 1) ≤ i → i < n' → kk key p' i = kk key p' (n' - 1))
  | 0, n, q, p, _, _, hs, hq, he => ⟨p, n, q, rfl, .refl _, Nat.le_refl _, Nat.le_refl _, hs, hq, he⟩
  | f + 1, n, q, p, h1, hz, hs, hq, he => by
    show ∃ p' n' q', ev (lt_ key) (if lt_ key (p.getD n 0) (p.getD (n - 1) 0) = true then _ else KasT.ask _ _ _) = (p', n', q') ∧ _
    cases hl : lt_ key (p.getD n 0) (p.getD (n - 1) 0) with
    | true =>
      have step : ∀ xs : Array Nat, (∀ k, kk key xs k = kk key p k) → Fl key xs (n + 1) := fun xs hk i j hij hj => by
        rw [hk, hk]
        by_cases hjn : j < n
        · exact hs i j hij hjn
        · have hj' : j = n := by omega
          subst hj'
          by_cases hi' : i = j
          · subst hi'; exact KeyOrd.kle_refl _
          · exact KeyOrd.kle_trans (KeyOrd.kle_of_klt hl) (hs i (j - 1) (by omega) (by omega))
      by_cases hq0 : q > 0
      · have hk := kk_rev_eq (key := key) (p := p) (i := n - (q + 1)) (j := n) (by omega) he
        obtain ⟨p', n', q', e, a, b, c, d⟩ := desc_ok f (n + 1) 0 (kas_rev p (n - (q + 1)) n) (by omega) (by rw [rev_size]; omega) (step _ hk) (by omega) (fun i h1 h2 => by congr 1; omega)
        exact ⟨p', n', q', by simpa [hq0] using e, a.trans (rev_perm _ _ _), by omega, by omega, d⟩
      · obtain ⟨p', n', q', e, a, b, c, d⟩ := desc_ok f (n + 1) 0 p (by omega) (by omega) (step _ fun _ => rfl) (by omega) (fun i h1 h2 => by congr 1; omega)
        exact ⟨p', n', q', by simpa [hq0] using e, a, by omega, by omega, d⟩
    | false =>
      show ∃ p' n' q', ev (lt_ key) (if lt_ key (p.getD (n - 1) 0) (p.getD n 0) = true then KasT.ret (p, n, q) else kas_desc f p (n + 1) (q + 1)) = (p', n', q') ∧ _
      cases hr : lt_ key (p.getD (n - 1) 0) (p.getD n 0) with
      | true => exact ⟨p, n, q, by simp [ev], .refl _, Nat.le_refl _, by omega, hs, hq, he⟩
      | false =>
        have heq : kk key p n = kk key p (n - 1) := KeyOrd.kle_antisymm hr hl
        have hs' : Fl key p (n + 1) := fun i j hij hj => by
          by_cases hjn : j < n
          · exact hs i j hij hjn
          · have hj' : j = n := by omega
            subst hj'
            by_cases hi' : i = j
            · subst hi'; exact KeyOrd.kle_refl _
            · rw [heq]; exact hs i (j - 1) (by omega) (by omega)
        obtain ⟨p', n', q', e, a, b, c, d⟩ := desc_ok f (n + 1) (q + 1) p (by omega) (by omega) hs' (by omega) (fun i h1 h2 => by
          rw [show n + 1 - 1 = n by omega]
          by_cases hix : i = n
          · subst hix; rfl
          · rw [heq]; exact he i (by omega) (by omega))
        exact ⟨p', n', q', by simpa using e, a, by omega, by omega, d⟩

theorem descPart_ok {p : Array Nat} {n nrem : Nat} (hn : n + 1 ≤ nrem) (hz : nrem ≤ p.size) (hs : Fl key p (n + 1)) :
    ∃ m q, ev (lt_ key) (kas_descPart n nrem p) = (m, q) ∧ q.Perm p ∧ 1 ≤ m ∧ m ≤ nrem ∧ Sr key q m := by
  unfold kas_descPart
  rw [ev_bind]
  obtain ⟨p', n', q', e, a, b, c, d, hq, he⟩ := desc_ok (nrem - (n + 1)) (n + 1) 0 p (by omega) (by omega) hs (by omega) (fun i h1 h2 => by congr 1; omega)
  rw [e]
  dsimp only
  have hz' : p'.size = p.size := a.size_eq
  by_cases hq0 : q' > 0
  · rw [if_pos hq0]
    have hk := kk_rev_eq (key := key) (p := p') (i := n' - (q' + 1)) (j := n') (by omega) he
    obtain ⟨m, r, e2, a2, b2, c2, d2⟩ := tail3_ok (key := key) (p := kas_rev p' (n' - (q' + 1)) n') (n := n') (nrem := nrem) (by omega) (by omega) (by rw [rev_size]; omega) (fun i j hij hj => by rw [hk, hk]; exact d i j hij hj)
    exact ⟨m, r, e2, a2.trans ((rev_perm _ _ _).trans a), b2, c2, d2⟩
  · rw [if_neg hq0]
    obtain ⟨m, r, e2, a2, b2, c2, d2⟩ := tail3_ok (key := key) (p := p') (n := n') (nrem := nrem) (by omega) (by omega) (by omega) d
    exact ⟨m, r, e2, a2.trans a, b2, c2, d2⟩

theorem count_ok {p : Array Nat} {nrem : Nat} (h1 : 1 ≤ nrem) (hz : nrem ≤ p.size) : ∃ m q, ev (lt_ key) (kas_count nrem p) = (m, q) ∧ q.Perm p ∧ 1 ≤ m ∧ m ≤ nrem ∧ Sr key q m := by
  unfold kas_count
  rw [ev_bind]
  obtain ⟨n, e, a, b, hsn, hor⟩ := asc_ok (key := key) (p := p) (nrem - 1) 1 (Nat.le_refl _) (fun i j hij hj => by have : i = j := (by omega); subst this; exact KeyOrd.kle_refl _)
  rw [e]
  by_cases hnn : n = nrem
  · rw [if_pos (by simpa using hnn)]
    exact ⟨n, p, rfl, .refl _, a, by omega, hsn⟩
  · rw [if_neg (by simpa using hnn)]
    have hlt : O.klt (kk key p n) (kk key p (n - 1)) := hor.resolve_left (by omega)
    by_cases hgt : n > 1
    · rw [if_pos hgt]
      show ∃ m q, ev (lt_ key) (if lt_ key (p.getD 0 0) (p.getD (n - 1) 0) = true then KasT.ret (n, p) else kas_descPart n nrem (kas_rev p 0 n)) = (m, q) ∧ _
      cases hr : lt_ key (p.getD 0 0) (p.getD (n - 1) 0) with
      | true => exact ⟨n, p, by simp [ev], .refl _, a, by omega, hsn⟩
      | false =>
        have hall : ∀ k, 0 ≤ k → k < n → kk key p k = kk key p (n - 1) := fun k _ hk =>
          KeyOrd.kle_antisymm (hsn k (n - 1) (by omega) (by omega)) (KeyOrd.kle_trans hr (hsn 0 k (by omega) hk))
        have hk := kk_rev_eq (key := key) (p := p) (i := 0) (j := n) (by omega) hall
        obtain ⟨m, q, e2, a2, b2, c2, d2⟩ := descPart_ok (key := key) (p := kas_rev p 0 n) (n := n) (nrem := nrem) (by omega) (by rw [rev_size]; omega) (fun i j hij hj => by
          rw [hk, hk]
          by_cases hjn : j < n
          · rw [hall i (by omega) (by omega), hall j (by omega) hjn]; exact KeyOrd.kle_refl _
          · have hj' : j = n := by omega
            subst hj'
            by_cases hi' : i = j
            · subst hi'; exact KeyOrd.kle_refl _
            · rw [hall i (by omega) (by omega)]; exact KeyOrd.kle_of_klt hlt)
        exact ⟨m, q, by simpa using e2, a2.trans (rev_perm _ _ _), b2, c2, d2⟩
    · rw [if_neg hgt]
      have hn1 : n = 1 := by omega
      subst hn1
      refine descPart_ok (by omega) hz fun i j hij hj => ?_
      by_cases hi' : i = j
      · subst hi'; exact KeyOrd.kle_refl _
      · have hi0 : i = 0 := by omega
        have hj1 : j = 1 := by omega
        subst hi0; subst hj1
        exact KeyOrd.kle_of_klt hlt

theorem place_ok {p : Array Nat} {k : Nat} (hs : Sr key p k) : ∀ (f l r : Nat), l ≤ r → r ≤ k → r - l ≤ f → (∀ i, i < l → O.kle (kk key p i) (kk key p k)) → (∀ i, r ≤ i → i < k → O.klt (kk key p k) (kk key p i)) →
    ∃ m, ev (lt_ key) (kas_place p k f l r) = m ∧ m ≤ k ∧ (∀ i, i < m → O.kle (kk key p i) (kk key p k)) ∧ (∀ i, m ≤ i → i < k → O.klt (kk key p k) (kk key p i))
  | 0, l, r, hlr, hrk, hf, hlo, hhi => ⟨l, rfl, by omega, hlo, fun i h1 h2 => hhi i (by omega) h2⟩
  | f + 1, l, r, hlr, hrk, hf, hlo, hhi => by
    unfold kas_place
    by_cases hge : l ≥ r
    · rw [if_pos hge]
      exact ⟨l, rfl, by omega, hlo, fun i h1 h2 => hhi i (by omega) h2⟩
    · rw [if_neg hge]
      show ∃ m, ev (lt_ key) (if lt_ key (p.getD k 0) (p.getD ((l + r) / 2) 0) = true then kas_place p k f l ((l + r) / 2) else kas_place p k f ((l + r) / 2 + 1) r) = m ∧ _
      cases hl : lt_ key (p.getD k 0) (p.getD ((l + r) / 2) 0) with
      | true =>
        obtain ⟨m, e, x⟩ := place_ok hs f l ((l + r) / 2) (by omega) (by omega) (by omega) hlo (fun i h1 h2 => KeyOrd.klt_of_klt_of_kle hl (hs _ _ h1 h2))
        exact ⟨m, by simpa using e, x⟩
      | false =>
        obtain ⟨m, e, x⟩ := place_ok hs f ((l + r) / 2 + 1) r (by omega) (by omega) (by omega) (fun i h1 => KeyOrd.kle_trans (hs i ((l + r) / 2) (by omega) (by omega)) (show O.kle _ _ from hl)) hhi
        exact ⟨m, by simpa using e, x⟩

theorem bin_ok : ∀ (f : Nat) (p : Array Nat) (k : Nat), k + f = p.size → Sr key p k → ∃ q, ev (lt_ key) (kas_bin f p k) = q ∧ q.Perm p ∧ Sr key q (k + f)
  | 0, p, k, _, hs => ⟨p, rfl, .refl _, hs⟩
  | f + 1, p, k, hz, hs => by
    unfold kas_bin
    rw [ev_bind]
    obtain ⟨l, e, hlk, hlo, hhi⟩ := place_ok (key := key) hs k 0 k (by omega) (by omega) (by omega) (fun i h => by omega) (fun i h1 h2 => by omega)
    rw [e]
    have hs' : Sr key (bubble p k (k - l)) (k + 1) := fun i j hij hj => by
      rw [kk_bubble (by omega) (by omega), kk_bubble (by omega) (by omega), show k - (k - l) = l by omega]
      repeat' split
      all_goals first
        | (exfalso; omega)
        | exact KeyOrd.kle_refl _
        | exact hlo _ (by omega)
        | exact KeyOrd.kle_of_klt (hhi _ (by omega) (by omega))
        | exact hs _ _ (by omega) (by omega)
    obtain ⟨q, e2, a, b⟩ := bin_ok f (bubble p k (k - l)) (k + 1) (by rw [(bubble_perm p k (k - l)).size_eq]; omega) hs'
    exact ⟨q, e2, a.trans (bubble_perm _ _ _), by rw [show k + (f + 1) = k + 1 + f by omega]; exact b⟩

/-- the tree's answer: the numbers below n, so put that the keys rise -/
theorem sort_ok (n : Nat) (h1 : 1 ≤ n) : ∃ q, ev (lt_ key) (kas_sort n) = q ∧ q.Perm (List.range n).toArray ∧ Sr key q n := by
  unfold kas_sort
  rw [ev_bind]
  have hz : (List.range n).toArray.size = n := by simp
  obtain ⟨m, q, e, a, b, c, d⟩ := count_ok (key := key) (p := (List.range n).toArray) h1 (by omega)
  rw [e]
  dsimp only
  have hq : q.size = n := by rw [a.size_eq, hz]
  by_cases hm : m < n
  · rw [if_pos hm]
    obtain ⟨r, e2, a2, b2⟩ := bin_ok (key := key) (n - max m 1) q (max m 1) (by omega) (by rw [show max m 1 = m by omega]; exact d)
    exact ⟨r, e2, a2.trans a, by rw [show max m 1 + (n - max m 1) = n by omega] at b2; exact b2⟩
  · rw [if_neg hm]
    have : m = n := by omega
    subst this
    exact ⟨q, rfl, a, d⟩
end
end SortT
namespace SortT
open PySem.W PyProof.Rows
/-- every question of the tree asks below n; R holds of what it hands back -/
def WinP {α : Type} (n : Nat) (R : α → Prop) : KasT α → Prop
  | .ret a => R a
  | .ask i j k => i < n ∧ j < n ∧ ∀ b, WinP n R (k b)
theorem WinP.bind {α β : Type} {n : Nat} {R : α → Prop} {R' : β → Prop} {f : α → KasT β} (hf : ∀ a, R a → WinP n R' (f a)) : ∀ (t : KasT α), WinP n R t → WinP n R' (t.bind f)
  | .ret a, h => hf a h
  | .ask _ _ k, h => ⟨h.1, h.2.1, fun b => WinP.bind hf (k b) (h.2.2 b)⟩
def Bd (n : Nat) (p : Array Nat) : Prop := ∀ i, p.getD i 0 < n
theorem Bd.perm {n : Nat} {p q : Array Nat} (h : Bd n q) (hp : p.Perm q) : Bd n p := fun i => by
  have h0 : 0 < n := Nat.lt_of_le_of_lt (Nat.zero_le _) (h 0)
  by_cases hi : i < p.size
  · have e : p.getD i 0 = p[i] := by simp [Array.getD, hi]
    rw [e]
    have hm : p[i] ∈ q.toList := (Array.perm_iff_toList_perm.mp hp).mem_iff.mp (by simp)
    obtain ⟨j, hj, ej⟩ := List.getElem_of_mem hm
    have hj' : j < q.size := by simpa using hj
    have := h j
    rw [show q.getD j 0 = q[j] by simp [Array.getD, hj']] at this
    rw [← ej]
    simpa using this
  · have e : p.getD i 0 = 0 := by simp [Array.getD, hi]
    rw [e]; exact h0
theorem asc_win {n : Nat} {p : Array Nat} (hp : Bd n p) : ∀ f m, WinP n (fun _ => True) (kas_asc p f m)
  | 0, _ => trivial
  | f + 1, m => ⟨hp _, hp _, fun b => by
      cases b with
      | true => exact trivial
      | false => exact asc_win hp f (m + 1)⟩
theorem desc_win {n : Nat} : ∀ (f : Nat) (p : Array Nat) (m q : Nat), Bd n p → WinP n (fun r => Bd n r.1) (kas_desc f p m q)
  | 0, _, _, _, hp => hp
  | f + 1, p, m, q, hp => ⟨hp _, hp _, fun b => by
      cases b with
      | true =>
        show WinP n _ (if q > 0 then kas_desc f (kas_rev p (m - (q + 1)) m) (m + 1) 0 else kas_desc f p (m + 1) 0)
        split
        · exact desc_win f _ _ _ (hp.perm (rev_perm _ _ _))
        · exact desc_win f _ _ _ hp
      | false =>
        refine ⟨hp _, hp _, fun d => ?_⟩
        cases d with
        | true => exact hp
        | false => exact desc_win f _ _ _ hp⟩
theorem tail3_win {n m nrem : Nat} {p : Array Nat} (hp : Bd n p) : WinP n (fun r => Bd n r.2) (kas_tail3 m nrem p) := by
  unfold kas_tail3
  exact WinP.bind (R := fun _ => True) (R' := fun r => Bd n r.2) (f := fun k => KasT.ret (k, kas_rev p 0 m)) (fun a _ => hp.perm (rev_perm p 0 m)) _ (asc_win (hp.perm (rev_perm p 0 m)) _ _)
theorem descPart_win {n m nrem : Nat} {p : Array Nat} (hp : Bd n p) : WinP n (fun r => Bd n r.2) (kas_descPart m nrem p) :=
  WinP.bind (fun r hr => by
    split
    · exact tail3_win (hr.perm (rev_perm _ _ _))
    · exact tail3_win hr) _ (desc_win _ _ _ _ hp)
theorem count_win {n nrem : Nat} {p : Array Nat} (hp : Bd n p) : WinP n (fun r => Bd n r.2) (kas_count nrem p) :=
  WinP.bind (fun r _ => by
    split
    · exact hp
    · split
      · refine ⟨hp _, hp _, fun b => ?_⟩
        cases b with
        | true => exact hp
        | false => exact descPart_win (hp.perm (rev_perm _ _ _))
      · exact descPart_win hp) _ (asc_win hp _ _)
theorem place_win {n k : Nat} {p : Array Nat} (hp : Bd n p) : ∀ f l r, WinP n (fun _ => True) (kas_place p k f l r)
  | 0, _, _ => trivial
  | f + 1, l, r => by
    unfold kas_place
    split
    · exact trivial
    · refine ⟨hp _, hp _, fun b => ?_⟩
      cases b with
      | true => exact place_win hp f _ _
      | false => exact place_win hp f _ _
theorem bin_win {n : Nat} : ∀ (f : Nat) (p : Array Nat) (k : Nat), Bd n p → WinP n (fun _ => True) (kas_bin f p k)
  | 0, _, _, _ => trivial
  | f + 1, p, k, hp => WinP.bind (fun l _ => bin_win f _ _ (hp.perm (bubble_perm _ _ _))) _ (place_win hp _ _ _)
theorem sort_win {n : Nat} (h : 0 < n) : WinP n (fun _ => True) (kas_sort n) :=
  WinP.bind (fun r hr => by
    split
    · exact bin_win _ _ _ hr
    · exact trivial) _ (count_win fun i => by
      by_cases hi : i < n
      · simp [Array.getD, hi]
      · simp [Array.getD, hi]; exact h)
end SortT
namespace SortT
open PySem PySem.W PySem.Calls PyProof.Rows
theorem wp_ev {α : Type} {cmp : Nat → Nat → (Bool → Shared → Prop) → Shared → Prop} {lt : Nat → Nat → Bool} {n : Nat} {s : Shared} (hc : ∀ i j C, i < n → j < n → C (lt i j) s → cmp i j C s) {R : α → Prop} {Q : α → Shared → Prop} :
    ∀ t : KasT α, WinP n R t → Q (ev lt t) s → t.kasWp cmp Q s
  | .ret _, _, h => h
  | .ask i j k, w, h => hc i j _ w.1 w.2.1 (wp_ev hc (k (lt i j)) (w.2.2 _) h)

section
variable {prog : Program} {w : World} {A : Around} {E : Value → Shared → Prop} {s : Shared}
/-- the places below n, so put that their keys rise -/
structure Put {O : KeyOrd} (key : Nat → O.α) (n : Nat) (out : List Nat) : Prop where
  perm : out.Perm (List.range n)
  rise : ∀ (i j a b : Nat), i ≤ j → out[i]? = some a → out[j]? = some b → O.kle (key a) (key b)
theorem put_of {O : KeyOrd} {key : Nat → O.α} {n : Nat} {q : Array Nat} (hp : q.Perm (List.range n).toArray) (hs : Sr key q n) : Put key n q.toList := by
  have hl : q.toList.Perm (List.range n) := Array.perm_iff_toList_perm.mp hp
  refine ⟨hl, fun i j a b hij ha hb => ?_⟩
  have hz : q.size = n := by have := hp.size_eq; simpa using this
  have hj : j < q.toList.length := (List.getElem?_eq_some_iff.mp hb).1
  have hj' : j < n := by rw [← hz]; simpa using hj
  have h := hs i j hij hj'
  have ga : q.getD i 0 = a := by
    rw [Array.getD_eq_getD_getElem?, ← Array.getElem?_toList, ha]; rfl
  have gb : q.getD j 0 = b := by
    rw [Array.getD_eq_getD_getElem?, ← Array.getElem?_toList, hb]; rfl
  unfold kk at h
  rw [ga, gb] at h
  exact h

/-- how the items are asked: the kind of the keys, then two of them, in whatever state keeps all that stood there but a -/
structure Asks (prog : Program) (w : World) (A : Around) (s : Shared) (a : Addr) (vs : List Value) {O : KeyOrd} (key : Nat → O.α) (κ : SortKind) : Prop where
  kind : ∀ (h' : Heap) (Q : SortKind → Shared → Prop) (E : Value → Shared → Prop), (∀ b o, b ≠ a → s.heap.get? b = some o → h'.get? b = some o) → Q κ { s with heap := h' } → wpAny (model prog w) A (keyKind' vs.toArray) Q E { s with heap := h' }
  less : ∀ (h' : Heap) (i j : Nat) (Q : Bool → Shared → Prop) (E : Value → Shared → Prop), (∀ b o, b ≠ a → s.heap.get? b = some o → h'.get? b = some o) → i < vs.length → j < vs.length → Q (O.blt (key i) (key j)) { s with heap := h' } →
    wpAny (model prog w) A (keyLt' κ (vs.getD i Value.none) (vs.getD j Value.none)) Q E { s with heap := h' }

theorem list_sort {a : Addr} {vs : List Value} {n : Nat} {P : PySem.Fin → Shared → Prop} {O : KeyOrd} {key : Nat → O.α} {κ : SortKind} (ho : s.heap.get? a = some (seqObj "list" vs.toArray n)) (h64 : vs.length < 64)
    (ask : 2 ≤ vs.length → Asks prog w A s a vs key κ)
    (h : ∀ out : List Nat, Put key vs.length out → P (.done (.ret .none)) { s with heap := sortedHeap s.heap a vs (out.map fun i => vs.getD i Value.none).toArray }) :
    wpAny (model prog w) A (Builtin.«list.sort» ⟨[.ref a], []⟩) P E s := by
  rw [list_sort_plain]
  have ha : a < s.heap.objs.size := Heap.lt_size ho
  refine wpAny_bind (listItems_at ho rfl ?_)
  refine wpAny_bind (listUpdate_at ho rfl ?_ (by rw [List.size_toArray, sizeLine_eq]; omega) (Nat.zero_le _))
  obtain ⟨e1, ho1⟩ : ∃ e1, (s.heap.update a (Obj.mapSeq fun _ => #[])).get? a = some (seqObj "list" #[] e1) := ⟨_, get?_update_seq ho (fun _ => #[])⟩
  refine wpAny_bind (seqEpoch_at ho1 rfl ?_)
  refine wpAny_bind (wpAny_newTuple ?_ (by show vs.length ≤ _; rw [sizeLine_eq]; omega))
  refine wpAny_bind (wpAny_newList ?_ (Nat.zero_le _))
  refine wpAny_holding ?_
  have ho6 : (((s.heap.update a (Obj.mapSeq fun _ => #[])).push (seqObj "tuple" vs.toArray 0)).push (seqObj "list" #[] 0)).get? a = some (seqObj "list" #[] e1) := by
    rw [Heap.get?_push_ne _ _ _ (by rw [size_push', Heap.size_update]; exact Nat.ne_of_lt (Nat.lt_succ_of_lt ha)), Heap.get?_push_ne _ _ _ (by rw [Heap.size_update]; exact Nat.ne_of_lt ha)]
    exact ho1
  have keep : ∀ b o, b ≠ a → s.heap.get? b = some o → (((s.heap.update a (Obj.mapSeq fun _ => #[])).push (seqObj "tuple" vs.toArray 0)).push (seqObj "list" #[] 0)).get? b = some o := fun b o hb e => by
    refine Heap.get?_push_of_some _ (Heap.get?_push_of_some _ ?_)
    rw [Heap.get?_update_ne _ _ _ _ hb]
    exact e
  show wpAny (model prog w) A _ P E { s with heap := ((s.heap.update a (Obj.mapSeq fun _ => #[])).push (seqObj "tuple" vs.toArray 0)).push (seqObj "list" #[] 0) }
  dsimp only
  by_cases h2 : vs.toArray.size < 2
  · rw [if_pos h2, if_pos h2]
    refine wpAny_bind (wpAny_pure ?_)
    rw [StateT.run_pure]
    refine wpAny_bind (wpAny_pure ?_)
    dsimp only
    refine wpAny_bind (seqEpoch_at ho6 rfl ?_)
    refine wpAny_bind (listUpdate_at ho6 rfl ?_ (Nat.zero_le _) (by rw [Array.size_map]; show (pairsOf vs).size ≤ _; rw [pairsOf_size, sizeLine_eq]; omega))
    simp only [bne_self_eq_false, Bool.false_eq_true, if_false]
    refine wpAny_pure ?_
    have hlen : vs.length < 2 := by simpa using h2
    have hout : (arrOf (SortSt.mk' general' (vs.toArray.zip vs.toArray) #[] 7 none)).map (·.2) = ((List.range vs.length).map fun i => vs.getD i Value.none).toArray := by
      show (vs.toArray.zip vs.toArray).map (·.2) = _
      match vs, hlen with
      | [], _ => simp
      | [v], _ => simp
      | _ :: _ :: _, h => exfalso; simp only [List.length_cons] at h; omega
    have fin := h (List.range vs.length) ⟨.refl _, fun i j x y hij hx hy => by
      have hj : j < (List.range vs.length).length := (List.getElem?_eq_some_iff.mp hy).1
      rw [List.length_range] at hj
      have e : i = j := by omega
      subst e
      rw [hx] at hy
      cases hy
      exact KeyOrd.kle_refl _⟩
    rw [← hout] at fin
    exact fin
  · rw [if_neg h2, if_neg h2]
    have h2' : 2 ≤ vs.length := by
      have : ¬ vs.length < 2 := by simpa using h2
      omega
    have K := ask h2'
    refine wpAny_bind (K.kind _ _ _ keep ?_)
    obtain ⟨q, eq, hp, hs⟩ := sort_ok (key := key) vs.length (by omega)
    have run : (kas_sort vs.length).kasWp (kas_ask prog w A κ vs) (fun p s' => p = q ∧ s' = { s with heap := ((s.heap.update a (Obj.mapSeq fun _ => #[])).push (seqObj "tuple" vs.toArray 0)).push (seqObj "list" #[] 0) })
        { s with heap := ((s.heap.update a (Obj.mapSeq fun _ => #[])).push (seqObj "tuple" vs.toArray 0)).push (seqObj "list" #[] 0) } :=
      wp_ev (lt := lt_ key) (n := vs.length) (fun i j C hi hj hC => K.less _ i j C _ keep hi hj hC) _ (sort_win (by omega)) ⟨eq, rfl⟩
    refine wpAny_bind (wpAny_mono (kat_run (ks := vs) (vs := vs) (Q := fun st' s' => ∃ p : Array Nat, p.size = vs.length ∧ arrOf st' = p.map (kas_item (vs.toArray.zip vs.toArray)) ∧ failedOf st' = none ∧ p = q ∧ s' = { s with heap := ((s.heap.update a (Obj.mapSeq fun _ => #[])).push (seqObj "tuple" vs.toArray 0)).push (seqObj "list" #[] 0) })
      rfl h2' h64 (fun p' st' s' a1 a2 a3 a4 => ⟨p', a1, a2, a3, a4⟩) run) ?_ fun _ _ e => e)
    rintro ⟨⟨⟩, st'⟩ s' ⟨p, hsz, har, hf, rfl, rfl⟩
    dsimp only
    refine wpAny_bind (seqEpoch_at ho6 rfl ?_)
    refine wpAny_bind (listUpdate_at ho6 rfl ?_ (Nat.zero_le _) (by rw [Array.size_map, har, Array.size_map, hsz, sizeLine_eq]; omega))
    rw [hf]
    simp only [bne_self_eq_false, Bool.false_eq_true, if_false]
    refine wpAny_pure ?_
    have hout := kat_snds (ks := vs) (vs := vs) rfl har
    have fin := h p.toList (put_of hp hs)
    rw [← hout] at fin
    exact fin

/-- sorted(list): a new list at D; all that stood there stays -/
theorem sorted_list {l : Addr} {vs : List Value} {Q : Value → Shared → Prop} {O : KeyOrd} {key : Nat → O.α} {κ : SortKind} (hl : s.heap.IsList l vs.toArray) (h64 : vs.length < 64)
    (ask : 2 ≤ vs.length → ∀ (s' : Shared) (a : Addr), (∀ b o, s.heap.get? b = some o → b ≠ a) → (∀ b o, s.heap.get? b = some o → s'.heap.get? b = some o) → Asks prog w A.in1.in1 s' a vs key κ)
    (h : ∀ (D : Addr) (h' : Heap) (out : List Nat) (c : Nat), Put key vs.length out → s.heap.objs.size ≤ D → (∀ b o, s.heap.get? b = some o → h'.get? b = some o) →
      h'.get? D = some (seqObj "list" (out.map fun i => vs.getD i Value.none).toArray c) → Q (.ref D) { s with heap := h' }) :
    wpAny (model prog w) A (call (.builtin "sorted") [.ref l]) Q E s := by
  refine Calls.call_function_entry kind_sorted plain_sorted entry_sorted (args_sorted1 _) ?_
  unfold Builtin.«sorted»
  refine wpAny_bind (m := checkCount "sorted" 1 1 _) (wpAny_pure ?_)
  refine wpAny_bind (collect_list hl ?_ (by rw [sizeLine_eq]; omega))
  refine wpAny_bind (wpAny_newList ?_ (by rw [sizeLine_eq]; omega))
  have hsz : ((s.heap.push (seqObj "list" #[] 0)).update s.heap.objs.size (Obj.mapSeq (· ++ vs.toArray))).objs.size = s.heap.objs.size + 1 := by
    rw [Heap.size_update, size_push']
  have hoL : (((s.heap.push (seqObj "list" #[] 0)).update s.heap.objs.size (Obj.mapSeq (· ++ vs.toArray))).push (seqObj "list" vs.toArray 0)).get? (s.heap.objs.size + 1) = some (seqObj "list" vs.toArray 0) := by
    rw [← hsz]; exact Heap.get?_push_size _ rfl
  have keep : ∀ b o, s.heap.get? b = some o → (((s.heap.push (seqObj "list" #[] 0)).update s.heap.objs.size (Obj.mapSeq (· ++ vs.toArray))).push (seqObj "list" vs.toArray 0)).get? b = some o := fun b o q => by
    have hlt : b < s.heap.objs.size := Heap.lt_size q
    rw [Heap.get?_push_ne _ _ _ (by rw [hsz]; exact Nat.ne_of_lt (Nat.lt_succ_of_lt hlt)), Heap.get?_update_ne _ _ _ _ (Nat.ne_of_lt hlt), Heap.get?_push_ne _ _ _ (Nat.ne_of_lt hlt)]
    exact q
  show wpAny _ _ _ _ _ { s with heap := ((s.heap.push (seqObj "list" #[] 0)).update s.heap.objs.size (Obj.mapSeq (· ++ vs.toArray))).push (seqObj "list" vs.toArray 0) }
  rw [hsz]
  refine wpAny_bind (wpAny_holding (wpAny_call_entry slot_list_sort ⟨_, hoL, rfl⟩ entry_list_sort (list_sort (O := O) (key := key) (κ := κ) hoL h64 (fun h2 => ask h2 _ _ (fun b o e => Nat.ne_of_lt (Nat.lt_succ_of_lt (Heap.lt_size e))) keep) fun out hp => ⟨_, rfl, ?_⟩) (args_list_sort _)))
  refine wpAny_pure ⟨_, rfl, ?_⟩
  obtain ⟨c, hc⟩ := sortedAll_at s.heap vs (out.map fun i => vs.getD i Value.none).toArray
  exact h _ _ out c hp (Nat.le_succ _) (fun b o e => sortedAll_old e) hc
end
end SortT
namespace DRaw
open PySem PySem.W PySem.Calls PyProof.Rows
/-- an exact dict, its entries as they stand -/
def At (h : Heap) (d : Addr) (es : Array DictEntry) (ep : Nat) : Prop := ∃ o, h.get? d = some o ∧ o.ExactDict ∧ o.data = .dict es ep
section
variable {prog : Program} {w : World} {A : Around} {E : Value → Shared → Prop} {s : Shared} {it d : Addr} {es : Array DictEntry} {i ep : Nat}
end
section
variable {prog : Program} {w : World} {A : Around} {d : Addr} {es : Array DictEntry} {ep : Nat}
end
end DRaw
namespace SortT
open PySem PySem.W PySem.Calls PyProof.Rows
end SortT
namespace L2
open PySem PySem.Spec PyProof.Rows
/-! ### sorting tuples of ints -/
/-- no tuple behind one that is greater -/
def Rises (ms : List (List Int)) : Prop := ms.Pairwise fun a b => HT.lexLt b a = false

/-- the values are tracked tuples of these ints, none of them empty -/
def TupsAre (H : Hp) : List V → List (List Int) → Prop
  | [], [] => True
  | x :: xs, k :: ks => (∃ a, x = .ref a ∧ H a = some (.tup (k.map V.int)) ∧ k ≠ []) ∧ TupsAre H xs ks
  | _, _ => False
theorem TupsAre.length {H : Hp} : ∀ {xs : List V} {ks : List (List Int)}, TupsAre H xs ks → xs.length = ks.length
  | [], [], _ => rfl
  | [], _ :: _, h => h.elim
  | _ :: _, [], h => h.elim
  | _ :: _, _ :: _, h => by rw [List.length_cons, List.length_cons, TupsAre.length h.2]
theorem TupsAre.get {H : Hp} : ∀ {xs : List V} {ks : List (List Int)} {i : Nat} {x : V}, TupsAre H xs ks → xs[i]? = some x → ∃ a k, x = .ref a ∧ ks[i]? = some k ∧ H a = some (.tup (k.map V.int)) ∧ k ≠ []
  | [], _, _, _, _, h => by simp at h
  | _ :: _, [], _, _, h, _ => h.elim
  | y :: _, k :: _, 0, x, h, e => by
    obtain ⟨⟨a, h1, h2, h3⟩, _⟩ := h
    have e' : y = x := by simpa using e
    subst e'
    exact ⟨a, k, h1, rfl, h2, h3⟩
  | _ :: _, _ :: _, i + 1, x, h, e => by
    obtain ⟨a, k, h1, h2, h3⟩ := TupsAre.get (i := i) h.2 (by simpa using e)
    exact ⟨a, k, h1, by simpa using h2, h3⟩
theorem TupsAre.mk {H : Hp} : ∀ {xs : List V} {ks : List (List Int)}, xs.length = ks.length → (∀ (i : Nat) (x : V) (k : List Int), xs[i]? = some x → ks[i]? = some k → ∃ a, x = V.ref a ∧ H a = some (.tup (k.map V.int)) ∧ k ≠ []) → TupsAre H xs ks
  | [], [], _, _ => trivial
  | [], _ :: _, e, _ => by simp at e
  | _ :: _, [], e, _ => by simp at e
  | x :: xs, k :: ks, e, h => ⟨h 0 x k rfl rfl, TupsAre.mk (by simpa using e) fun i x' k' h1 h2 => h (i + 1) x' k' (by simpa using h1) (by simpa using h2)⟩
theorem TupsAre.keep {H H' : Hp} {xs : List V} {ks : List (List Int)} (h : TupsAre H xs ks) (k : ∀ b ys, H b = some (.tup ys) → H' b = some (.tup ys)) : TupsAre H' xs ks :=
  TupsAre.mk h.length fun i x c h1 h2 => by
    obtain ⟨a, c', e1, e2, e3, e4⟩ := h.get h1
    rw [h2] at e2
    cases e2
    exact ⟨a, e1, k a _ e3, e4⟩
theorem TupsAre.snoc {H : Hp} : ∀ {xs : List V} {ks : List (List Int)} {x : V} {k : List Int}, TupsAre H xs ks → (∃ a, x = .ref a ∧ H a = some (.tup (k.map V.int)) ∧ k ≠ []) → TupsAre H (xs ++ [x]) (ks ++ [k])
  | [], [], _, _, _, h => ⟨h, trivial⟩
  | [], _ :: _, _, _, t, _ => t.elim
  | _ :: _, [], _, _, t, _ => t.elim
  | _ :: _, _ :: _, _, _, t, h => ⟨t.1, TupsAre.snoc t.2 h⟩

section
variable {prog : Program} {w : World} {A : Around} {s : Shared}
theorem sorted_fin {X : Cx} {pins : List (Addr × Obj)} {σ : St} {H : Hp} {s : Shared} {h' : Heap} {D : Addr} {c t' : Nat} {zs : List V} {us : List Value} (I : Inv X pins σ H s) (hD : s.heap.objs.size ≤ D) (kp : ∀ b o, s.heap.get? b = some o → h'.get? b = some o)
    (ho : h'.get? D = some (seqObj "list" us.toArray c)) (r : Vals zs us) (hz : zs.length ≤ sizeLine) : Inv X pins σ (upd H D (.lst zs)) { s with heap := h', toks := t' } :=
  I.laid kp hD (show ObjOk X.prog X.w _ _ _ (.lst zs) from ⟨hz, us, c, r, ho⟩)
end
section
variable {X : Cx}
end
end L2
namespace L2
open PySem PySem.Spec PyProof.Rows
/-! ### repr of data -/
mutual
inductive Shows (H : Hp) : V → PyData → Prop
  | non : Shows H .non .none
  | bl (b : Bool) : Shows H (.bl b) (.bool b)
  | int (i : Int) : Shows H (.int i) (.int i)
  | str (x : Str) : Shows H (.str x) (.str x)
  | tup {a : Addr} {xs : List V} {ds : List PyData} : H a = some (.tup xs) → ShowsAll H xs ds → Shows H (.ref a) (.tuple ds)
  | lst {a : Addr} {xs : List V} {ds : List PyData} : H a = some (.lst xs) → ShowsAll H xs ds → Shows H (.ref a) (.list ds)
inductive ShowsAll (H : Hp) : List V → List PyData → Prop
  | nil : ShowsAll H [] []
  | cons {x : V} {xs : List V} {d : PyData} {ds : List PyData} : Shows H x d → ShowsAll H xs ds → ShowsAll H (x :: xs) (d :: ds)
end
section
variable {P : Program} {w : World} {H : Hp} {h : Heap}
mutual
theorem Shows.reads (ok : HOk P w H h) : ∀ {x : V} {d : PyData}, Shows H x d → ∀ {u : Value}, RelV x u → ∃ as, Reads h u d as
  | _, _, .non, u, r => by cases (show u = Value.none from r); exact ⟨_, .none⟩
  | _, _, .bl b, u, r => by cases (show u = Value.bool b from r); exact ⟨_, .bool b⟩
  | _, _, .int i, u, r => by obtain ⟨t, rfl⟩ := r; exact ⟨_, .int i t⟩
  | _, _, .str x, u, r => by obtain ⟨t, rfl⟩ := r; exact ⟨_, .str x t⟩
  | _, _, .tup (a := a) e s, u, r => by
    cases (show u = Value.ref a from r)
    obtain ⟨_, its, rv, o, ho, hc, n, hd⟩ := ok a _ e
    obtain ⟨as, ra⟩ := ShowsAll.reads ok s rv
    exact ⟨_, .tuple ho hc hd (by simpa using ra)⟩
  | _, _, .lst (a := a) e s, u, r => by
    cases (show u = Value.ref a from r)
    obtain ⟨_, its, n, rv, ho⟩ := ok a _ e
    obtain ⟨as, ra⟩ := ShowsAll.reads ok s rv
    exact ⟨_, .list ho rfl rfl (by simpa using ra)⟩
theorem ShowsAll.reads (ok : HOk P w H h) : ∀ {xs : List V} {ds : List PyData}, ShowsAll H xs ds → ∀ {us : List Value}, Vals xs us → ∃ as, ReadsAll h us ds as
  | _, _, .nil, us, r => by cases r; exact ⟨_, .nil⟩
  | _, _, .cons s t, us, r => by
    cases r with
    | cons r1 r2 =>
      obtain ⟨a1, h1⟩ := Shows.reads ok s r1
      obtain ⟨a2, h2⟩ := ShowsAll.reads ok t r2
      exact ⟨_, .cons h1 h2⟩
end
end
/-- small enough to be shown: its weight, its depth -/
structure Fn (n p : Nat) (d : PyData) : Prop where
  wt : d.weight ≤ n
  dp : d.depth ≤ p
  cl : d.canLay0 = true
  sh : d.intsShort 13 = true
  sw : d.showable = true
section
variable {X : Cx}
end
end L2
namespace L2
open PySem PySem.Spec PyProof.Rows
/-! ### items that are written: quick to meet -/
section
variable {X : Cx} {es xs : List Expr} {t t1 : TA}
theorem pa_int {i j pos} (hr : PA X es t) : PA X (.Constant (.int i) j pos :: es) (tCons (tC (.int i)) t) := pa_cons pe_int hr (by rfl)
end
/-- ints as they are written -/
inductive LitInts : List Expr → List Int → Prop where
  | nil : LitInts [] []
  | cons {i : Int} {j : Nat} {pos : Pos} {es : List Expr} {ns : List Int} : LitInts es ns → LitInts (.Constant (.int i) j pos :: es) (i :: ns)
inductive LitIntss : List Expr → List (List Int) → Prop where
  | nil : LitIntss [] []
  | cons {xs : List Expr} {ns : List Int} {pos : Pos} {es : List Expr} {nss : List (List Int)} : LitInts xs ns → ns.length ≤ sizeLine → LitIntss es nss → LitIntss (.List xs pos :: es) (ns :: nss)
def tLitss : List (List Int) → TA
  | [] => tNil
  | ns :: r => fun σ H Q => ∀ p, H p = none → tLitss r σ (upd H p (.lst (ns.map V.int))) fun xs H2 => Q (.ref p :: xs) H2
end L2
/-! ### lists without repetitions -/
namespace WM
def lowTo (n : Nat) : List Int := (List.range n).map fun (i : Nat) => (i : Int)
theorem mem_ints {n : Nat} {x : Int} : x ∈ lowTo n ↔ 0 ≤ x ∧ x < n := by
  unfold lowTo
  rw [List.mem_map]
  constructor
  · rintro ⟨i, hi, rfl⟩
    have := List.mem_range.mp hi
    omega
  · rintro ⟨h0, h1⟩
    exact ⟨x.toNat, List.mem_range.mpr (by omega), by omega⟩
/-- two rising lists with the same members are one -/
theorem rise_same : ∀ {l₁ l₂ : List Int}, l₁.Pairwise (· < ·) → l₂.Pairwise (· < ·) → (∀ x, x ∈ l₁ ↔ x ∈ l₂) → l₁ = l₂
  | [], [], _, _, _ => rfl
  | [], y :: _, _, _, h => by have := (h y).mpr List.mem_cons_self; simp at this
  | x :: _, [], _, _, h => by have := (h x).mp List.mem_cons_self; simp at this
  | x :: r, y :: q, h1, h2, h => by
    obtain ⟨a1, b1⟩ := List.pairwise_cons.mp h1
    obtain ⟨a2, b2⟩ := List.pairwise_cons.mp h2
    have e : x = y := by
      rcases List.mem_cons.mp ((h x).mp List.mem_cons_self) with e | e
      · exact e
      · rcases List.mem_cons.mp ((h y).mpr List.mem_cons_self) with e' | e'
        · exact e'.symm
        · have := a2 x e; have := a1 y e'; omega
    subst e
    refine congrArg (x :: ·) (rise_same b1 b2 fun z => ?_)
    constructor
    · intro hz
      rcases List.mem_cons.mp ((h z).mp (List.mem_cons_of_mem _ hz)) with e | e
      · subst e; have := a1 z hz; omega
      · exact e
    · intro hz
      rcases List.mem_cons.mp ((h z).mpr (List.mem_cons_of_mem _ hz)) with e | e
      · subst e; have := a2 z hz; omega
      · exact e
theorem ints_rise (n : Nat) : (lowTo n).Pairwise (· < ·) := by
  unfold lowTo
  rw [List.pairwise_map]
  exact List.pairwise_lt_range.imp fun h => by omega

/-! ### ties -/
abbrev T3 := Int × Int × Int
def tl (t : T3) : List Int := [t.1, t.2.1, t.2.2]
structure GW (n : Int) (ts : List T3) : Prop where
  n1 : 1 ≤ n
  n24 : n ≤ 24
  len : ts.length < 64
  rng : ∀ t ∈ ts, 0 ≤ t.1 ∧ t.1 < t.2.1 ∧ t.2.1 < n ∧ 1 ≤ t.2.2 ∧ t.2.2 ≤ 99
  dis : ts.Pairwise fun s t => ¬ (s.1 = t.1 ∧ s.2.1 = t.2.1)
/-- y beside x by a tie of that long -/
def Adj (ts : List T3) (x y l : Int) : Prop := (x, y, l) ∈ ts ∨ (y, x, l) ∈ ts
/-- what ties_at finds at p, in the ties' order -/
def fd (p : Int) : List T3 → List (List Int)
  | [] => []
  | t :: r => (if t.1 = p then [[t.2.1, t.2.2]] else []) ++ (if t.2.1 = p then [[t.1, t.2.2]] else []) ++ fd p r
def hd (k : List Int) : Int := k.getD 0 0
/-! ### going along ties -/
inductive Rch (ts : List T3) : Int → Prop where
  | z : Rch ts 0
  | s {x y l : Int} : Rch ts x → Adj ts x y l → Rch ts y
end WM
/-! ### lengths of ways -/
namespace WM
inductive Way (ts : List T3) : Int → Int → Int → Prop where
  | nil (x : Int) : Way ts x x 0
  | cons {x z y l d : Int} : Adj ts x z l → Way ts z y d → Way ts x y (l + d)
/-- d is the length from x to y -/
def IsD (ts : List T3) (x y d : Int) : Prop := Way ts x y d ∧ ∀ e, Way ts x y e → d ≤ e
/-- the length, told or none -/
def Len (ts : List T3) (x y : Int) : Option Int → Prop
  | some d => IsD ts x y d
  | none => ∀ d, ¬ Way ts x y d
/-! ### the nearest first (what lengths_from does) -/
/-- known: settled places; wt: those that wait, with a length each -/
structure Dj (ts : List T3) (s : Int) (kn wt : Int → Option Int) : Prop where
  kd : ∀ p d, kn p = some d → IsD ts s p d
  wk : ∀ p d, wt p = some d → kn p = none ∧ Way ts s p d
  ord : ∀ p d q e, kn p = some d → wt q = some e → d ≤ e
  nb : ∀ p d q l, kn p = some d → Adj ts p q l → (∃ e, kn q = some e) ∨ ∃ e, wt q = some e ∧ e ≤ d + l
  st : (∃ d, kn s = some d) ∨ wt s = some 0
/-- while p's neighbours are looked at: ms those that were -/
structure Dm (ts : List T3) (s p d : Int) (kn wt : Int → Option Int) (seen : Int → Prop) : Prop where
  kd : ∀ q e, kn q = some e → IsD ts s q e
  wk : ∀ q e, wt q = some e → kn q = none ∧ Way ts s q e
  ord : ∀ q e r f, kn q = some e → wt r = some f → e ≤ f
  nb : ∀ q e r l, kn q = some e → Adj ts q r l → (q = p ∧ ¬ seen r) ∨ (∃ f, kn r = some f) ∨ ∃ f, wt r = some f ∧ f ≤ e + l
  st : ∃ e, kn s = some e
  pd : kn p = some d
  mx : ∀ q e, kn q = some e → e ≤ d
/-! ### by rounds (what the law's far does) -/
inductive WayK (ts : List T3) (k : Int) : Int → Int → Int → Prop where
  | nil (x : Int) : WayK ts k x x 0
  | tie {x y l : Int} : Adj ts x y l → WayK ts k x y l
  | cons {x z y l d : Int} : Adj ts x z l → z < k → WayK ts k z y d → WayK ts k x y (l + d)
/-- the table: each number is that of a way; no way by places below k (or, for rows that were done, k + 1) is shorter -/
structure Fw (ts : List T3) (n : Int) (F : Int → Int → Option Int) : Prop where
  snd : ∀ x y d, 0 ≤ x → x < n → 0 ≤ y → y < n → F x y = some d → Way ts x y d
def Cov (ts : List T3) (n k : Int) (F : Int → Int → Option Int) : Prop := ∀ x y d, 0 ≤ x → x < n → 0 ≤ y → y < n → WayK ts k x y d → ∃ e, F x y = some e ∧ e ≤ d
end WM
/-! ### lengths_from over lists -/
namespace WM
def fnl (kn : List (Option Int)) (p : Int) : Option Int := if 0 ≤ p then kn.getD p.toNat none else none
def cnt (kn : List (Option Int)) : Nat := (kn.filter Option.isSome).length
structure Dl (ts : List T3) (n s : Int) (kn : List (Option Int)) (wt : Int → Option Int) : Prop where
  dj : Dj ts s (fnl kn) wt
  ln : kn.length = n.toNat
  bk : ∀ p d, fnl kn p = some d → d ≤ 99 * cnt kn
  bw : ∀ p e, wt p = some e → e ≤ 99 * cnt kn ∧ 0 ≤ p ∧ p < n
structure Dn (ts : List T3) (n s p d : Int) (kn : List (Option Int)) (wt : Int → Option Int) (seen : Int → Prop) : Prop where
  dm : Dm ts s p d (fnl kn) wt seen
  ln : kn.length = n.toNat
  bk : ∀ q e, fnl kn q = some e → e ≤ 99 * cnt kn
  bd : d + 99 ≤ 99 * cnt kn
  bw : ∀ q e, wt q = some e → e ≤ 99 * cnt kn ∧ 0 ≤ q ∧ q < n
/-- a list of lengths from s -/
structure Lens (ts : List T3) (n s : Int) (kn : List (Option Int)) : Prop where
  ln : kn.length = n.toNat
  len : ∀ y, 0 ≤ y → y < n → Len ts s y (fnl kn y)
  bd : ∀ o ∈ kn, ∀ d, o = some d → 0 ≤ d ∧ d ≤ 2376
end WM
/-! ### by rounds, in place -/
namespace WM
def oadd : Option Int → Option Int → Option Int
  | some a, some b => some (a + b)
  | _, _ => none
def oles : Option Int → Option Int → Option Int
  | none, o => o
  | some a, none => some a
  | some a, some b => some (if b < a then b else a)
structure Fm (ts : List T3) (n k : Int) (F : Int → Int → Option Int) (done : Int → Int → Prop) : Prop where
  fw : Fw ts n F
  cv : Cov ts n k F
  dn : ∀ x y d, 0 ≤ x → x < n → 0 ≤ y → y < n → done x y → WayK ts (k + 1) x y d → ∃ e, F x y = some e ∧ e ≤ d
/-- the ties, before the rounds -/
def Ft (ts : List T3) (n : Int) (F : Int → Int → Option Int) : Prop := ∀ x y d, 0 ≤ x → x < n → 0 ≤ y → y < n → (F x y = some d ↔ (x = y ∧ d = 0) ∨ Adj ts x y d)
/-! ### tables as lists of rows -/
def mat (M : List (List (Option Int))) (x y : Int) : Option Int := if 0 ≤ x then fnl (M.getD x.toNat []) y else none
def setm (M : List (List (Option Int))) (a b : Int) (v : Option Int) : List (List (Option Int)) := M.set a.toNat ((M.getD a.toNat []).set b.toNat v)
structure Sqm (n : Int) (M : List (List (Option Int))) : Prop where
  ln : M.length = n.toNat
  rw_ : ∀ r ∈ M, r.length = n.toNat
/-- the whole table told: each row its lengths -/
def Rows (ts : List T3) (n : Int) (M : List (List (Option Int))) : Prop := M.length = n.toNat ∧ ∀ x, 0 ≤ x → x < n → Lens ts n x (M.getD x.toNat [])
end WM
/-! ### what is between, next places -/
namespace WM
/-- p is on a shortest way from x to y -/
def Btw (ts : List T3) (x y p : Int) : Prop := ∃ a b, IsD ts x p a ∧ IsD ts p y b ∧ IsD ts x y (a + b)
/-- p is second on a shortest way from x to y, by a tie of l -/
def Nxt (ts : List T3) (x y p : Int) : Prop := ∃ l b, Adj ts x p l ∧ IsD ts p y b ∧ IsD ts x y (l + b)
/-- a way gone: the places, and the sum of its longs -/
inductive Steps (ts : List T3) : List Int → Int → Prop where
  | one (x : Int) : Steps ts [x] 0
  | snoc {ps : List Int} {x y s l : Int} : Steps ts (ps ++ [x]) s → Adj ts x y l → Steps ts (ps ++ [x] ++ [y]) (s + l)
end WM
/-! ### a way gone by next places -/
namespace WM
structure Led (ts : List T3) (n x y D : Int) (found : List Int) (s z r : Int) : Prop where
  st : Steps ts found s
  ls : ∃ pre, found = pre ++ [z]
  rm : IsD ts z y r
  sm : s + r = D
  bt : Btw ts x y z
  nd : found.Nodup
  fa : ∀ f ∈ found, 0 ≤ f ∧ f < n ∧ ∃ rf, IsD ts f y rf ∧ r ≤ rf
end WM
namespace L2
open PySem PySem.Spec PyProof.Rows
/-! ### sorting ints -/
def intO : KeyOrd := ⟨Int, fun a b => decide (a < b), fun a => decide_eq_false (by omega), fun a b c h1 h2 => decide_eq_true (by have := of_decide_eq_true h1; have := of_decide_eq_true h2; omega),
  fun a b c h => by
    have h' : a < c := of_decide_eq_true h
    by_cases hab : a < b
    · exact .inl (decide_eq_true hab)
    · exact .inr (decide_eq_true (by omega)),
  fun a b h1 h2 => by have := of_decide_eq_false h1; have := of_decide_eq_false h2; omega⟩
theorem asks_ints {prog : Program} {w : World} {A : Around} {s : Shared} {a : Addr} {vs : List Value} {ns : List Int} (hI : IntsAre vs ns) (h2 : 2 ≤ vs.length) :
    SortT.Asks prog w A s a vs (O := intO) (fun i => ns.getD i 0) oneType' := by
  have hl := hI.length
  have at_ : ∀ i, i < vs.length → ∃ t, vs.getD i Value.none = .int (ns.getD i 0) t := fun i hi => by
    obtain ⟨n, hn⟩ : ∃ n, ns[i]? = some n := ⟨_, List.getElem?_eq_getElem (by omega)⟩
    obtain ⟨t, ht⟩ := hI.get i n hn
    exact ⟨t, by rw [List.getD_eq_getElem?_getD, List.getD_eq_getElem?_getD, ht, hn]; rfl⟩
  refine ⟨fun h' Q E kh q => ?_, fun h' i j Q E kh hi hj q => ?_⟩
  · rw [ksk_kind (keys := vs.toArray) (kz := ns) (by simpa using hI) (by simpa using h2)]
    exact wpAny_pure q
  · obtain ⟨t, e1⟩ := at_ i hi
    obtain ⟨u, e2⟩ := at_ j hj
    rw [e1, e2]
    exact PySem.W.kat_lt_int q
/-- ints put in order -/
theorem put_ints {vs : List Value} {ns : List Int} {out : List Nat} (hI : IntsAre vs ns) (p : SortT.Put (O := intO) (fun i => ns.getD i 0) vs.length out) :
    ∃ ms : List Int, ms.Perm ns ∧ ms.Pairwise (· ≤ ·) ∧ Vals (ms.map V.int) (out.map fun i => vs.getD i Value.none) ∧ ms.length = ns.length := by
  have hl := hI.length
  have hb : ∀ i ∈ out, i < vs.length := fun i hi => List.mem_range.mp (p.perm.mem_iff.mp hi)
  refine ⟨out.map fun i => ns.getD i 0, ?_, ?_, ?_, ?_⟩
  · have h1 := p.perm.map fun i => ns.getD i 0
    have h2 : (List.range vs.length).map (fun i => ns.getD i 0) = ns := by
      rw [show vs.length = ns.length by omega]
      apply List.ext_getElem?
      intro j
      rw [List.getElem?_map]
      by_cases hj : j < ns.length
      · rw [List.getElem?_range hj, List.getElem?_eq_getElem hj]; simp [hj]
      · rw [List.getElem?_eq_none (by rw [List.length_range]; omega), List.getElem?_eq_none (by omega)]; rfl
    rw [h2] at h1
    exact h1
  · refine List.pairwise_iff_getElem.mpr fun i j hi hj hij => ?_
    rw [List.length_map] at hi hj
    have := p.rise i j out[i] out[j] (Nat.le_of_lt hij) (by simp) (by simp)
    have h3 : decide (ns.getD out[j] 0 < ns.getD out[i] 0) = false := this
    have h4 := of_decide_eq_false h3
    rw [List.getElem_map, List.getElem_map]
    omega
  · have : ∀ l : List Nat, (∀ i ∈ l, i < vs.length) → Vals ((l.map fun i => ns.getD i 0).map V.int) (l.map fun i => vs.getD i Value.none) := by
      intro l
      induction l with
      | nil => intro _; exact .nil
      | cons i l ih =>
        intro h
        have hi := h i List.mem_cons_self
        obtain ⟨n, hn⟩ : ∃ n, ns[i]? = some n := ⟨_, List.getElem?_eq_getElem (by omega)⟩
        obtain ⟨t, ht⟩ := hI.get i n hn
        refine .cons ?_ (ih fun j hj => h j (List.mem_cons_of_mem _ hj))
        show RelV (V.int (ns.getD i 0)) (vs.getD i Value.none)
        rw [List.getD_eq_getElem?_getD, List.getD_eq_getElem?_getD, ht, hn]
        exact ⟨t, rfl⟩
    exact this out hb
  · rw [List.length_map, p.perm.length_eq, List.length_range]; omega
section
variable {X : Cx}
end

/-! ### a code's table of its lambdas -/
def CodePhi (c : Addr) (q : Str) : Heap → Prop := fun h => ∃ o vs t, h.get? c = some o ∧ o.data = .fields vs ∧ vs[1]? = some (.str q t)
/-- the table at P: nothing yet of the lambda at pos, or its code, which is tracked -/
def TabAt (H : Hp) (P : Addr) (pos : Pos) (q : Str) : Prop := ∃ ps, H P = some (.tbl ps) ∧ TriplesOk ps.toList ∧ (codeAmong pos ps.toList = none ∨ ∃ c, codeAmong pos ps.toList = some (.ref c) ∧ H c = some (.ext (CodePhi c q)))
/-- all that was tracked, but tables, is as it was -/
def SmT (H H' : Hp) : Prop := ∀ b o, H b = some o → (∃ ps, o = .tbl ps) ∨ H' b = some o
/-- where the module's own builtins lie -/
def BmAt (mg : Str → Option Value) (h : Heap) : Prop := ∃ bm ob, mg "__builtins__" = some (.ref bm) ∧ bm ≠ builtinsNs ∧ h.get? bm = some ob ∧ ob.cls = .type "module" ∧ ob.dict = some builtinsNs ∧ ob.data = .plain
section
variable {X : Cx} {pins : List (Addr × Obj)} {σ : St} {H : Hp} {s : Shared}
end

section
variable {X : Cx}
/-- min(l, key = lambda x: d[x]): l a list of ints, d a dict that has them all as keys, ints their values -/
def tMinKey (j : Nat) (P : Addr) (lpos : Pos) (q : Str) (t : TA) : TE := fun σ H Q => t σ H fun vs H1 => ∃ (l d : Addr) (ns : List Int) (kvs : List (Key × V)) (val : Int → Int), vs = [.ref l] ∧ H1 l = some (.lst (ns.map V.int)) ∧ ns ≠ [] ∧ σ[j]? = some (some (.ref d)) ∧ H1 d = some (.dK kvs) ∧
  (∀ n ∈ ns, valV kvs (Sum.inl n) = some (.int (val n))) ∧ TabAt H1 P lpos q ∧ ∀ (M : Int) (H2 : Hp), M ∈ ns → (∀ n ∈ ns, val M ≤ val n) → SmT H1 H2 → TabAt H2 P lpos q → Q (.int M) H2
end

/-! ### the head, with a table -/
end L2
/-! ### a def whose code is known -/
namespace L2
open PySem PySem.Spec PyProof.Rows
structure FunC (K : PySem.W.Frag) (x qual : Str) (st : Stmt) (f : Addr) (fd : FuncData) (c : Addr) : Prop where
  ex : ∃ (oc : Value) (od : Option Addr) (kV doc pm : Value) (an : Option Addr) (ct : Value) (osl : Array (Option Value)),
    fd = PySem.W.fnOf x qual (defArgs st) (defBody st) (defScope st) .none kV doc pm an (.ref c) ct ∧ K.lookup f = some ⟨oc, od, .func fd, osl⟩ ∧ PySem.W.codeIn K (.ref c) qual = true
  kp : PySem.W.keepIn K (.ref f) = true
/-! ### dicts: put and drop, whatever the keys -/
section
variable {κ : Type} [DecidableEq κ]
end
def unkW : Key → Int
  | .inl i => i
  | .inr _ => 0
/-- the dict of those that wait -/
structure WD (n : Int) (kvs : List (Key × V)) (wt : Int → Option Int) : Prop where
  sh : ∀ kv ∈ kvs, ∃ p d, kv = (Sum.inl p, V.int d) ∧ 0 ≤ p ∧ p < n
  nd : (kvs.map (·.1)).Nodup
  at_ : ∀ p : Int, valV kvs (Sum.inl p) = (wt p).map V.int
def keysW (kvs : List (Key × V)) : List Int := kvs.map fun kv => unkW kv.1
def oV : Option Int → V
  | none => .non
  | some d => .int d
theorem atI_in {α : Type} {xs : List α} {i : Int} {v : α} (h0 : 0 ≤ i) (h : xs[i.toNat]? = some v) : atI xs i = some v := by
  have := atI_nat h
  rwa [Int.toNat_of_nonneg h0] at this
end L2
namespace L2
open PySem PySem.Spec PyProof.Rows
theorem ints_all {xs ys : List Int} : ((List.range (min xs.length ys.length)).all (fun j => xs.getD j 0 == ys.getD j 0) && xs.length == ys.length) = decide (xs = ys) := by
  by_cases h : xs = ys
  · subst h; simp
  · rw [decide_eq_false h]
    by_cases hl : xs.length = ys.length
    · have : ∃ j, j < xs.length ∧ xs.getD j 0 ≠ ys.getD j 0 := by
        apply Classical.byContradiction
        intro hn
        refine h (List.ext_getElem hl fun j h1 h2 => ?_)
        apply Classical.byContradiction
        intro hne
        exact hn ⟨j, h1, by simpa [List.getD_eq_getElem?_getD, h1, h2] using hne⟩
      obtain ⟨j, hj, hne⟩ := this
      rw [Bool.and_eq_false_iff]
      left
      rw [List.all_eq_false]
      exact ⟨j, by rw [List.mem_range]; omega, by simpa using hne⟩
    · simp [hl]
section
variable {X : Cx}
def rEqT (K : PySem.W.Frag) (neg : Bool) : R2 := fun x y H Q => ∃ (a b : Addr) (xs ys : List Int), x = .ref a ∧ y = .ref b ∧ SqT K H a (xs.map V.int) ∧ SqT K H b (ys.map V.int) ∧ Q (.bl (if neg then !decide (xs = ys) else decide (xs = ys))) H
theorem eqAts {A : Around} {s : Shared} {us ws : List Value} {xs ys : List Int} (h1 : IntsAre us xs) (h2 : IntsAre ws ys) (j : Nat) (a : j < us.toArray.size) (b : j < ws.toArray.size) : SeqAt.EqAt A s us.toArray[j] ws.toArray[j] (xs.getD j 0 == ys.getD j 0) := by
  have l1 := h1.length
  have l2 := h2.length
  rw [List.size_toArray] at a b
  obtain ⟨n, hn⟩ : ∃ n, xs[j]? = some n := ⟨_, List.getElem?_eq_getElem (by omega)⟩
  obtain ⟨m, hm⟩ : ∃ m, ys[j]? = some m := ⟨_, List.getElem?_eq_getElem (by omega)⟩
  obtain ⟨t, ht⟩ := h1.get j n hn
  obtain ⟨u, hu⟩ := h2.get j m hm
  have e1 : us.toArray[j] = .int n t := by
    rw [List.getElem?_eq_getElem a] at ht
    simpa using Option.some.inj ht
  have e2 : ws.toArray[j] = .int m u := by
    rw [List.getElem?_eq_getElem b] at hu
    simpa using Option.some.inj hu
  rw [e1, e2, List.getD_eq_getElem?_getD, List.getD_eq_getElem?_getD, hn, hm]
  exact SeqAt.EqAt.int_int n t m u
theorem op_eqT (hu : X.A.units < cLine) : OpR X (compareOp .Eq) (rEqT X.K false) := by
  intro pins s σ H x y v u Q I rx ry h
  obtain ⟨a, b, xs, ys, rfl, rfl, ha, hb, q⟩ := h
  cases rx
  cases ry
  obtain ⟨its, r, pl, hz⟩ := I.tuple ha
  obtain ⟨its2, r2, pl2, hz2⟩ := I.tuple hb
  have h1 := intsAre_of r
  have h2 := intsAre_of r2
  refine SeqAt.eq_tupleAt (e := fun j => xs.getD j 0 == ys.getD j 0) pl pl2 hu (fun j a b => eqAts h1 h2 j a b) ⟨.bl _, H, I, rfl, ?_⟩
  rw [List.size_toArray, List.size_toArray, h1.length, h2.length, ints_all]
  exact q
def rNeT (K : PySem.W.Frag) : R2 := fun x y H Q => ∃ (a b : Addr) (xs ys : List Int), x = .ref a ∧ y = .ref b ∧ SqT K H a (xs.map V.int) ∧ SqT K H b (ys.map V.int) ∧ Q (.bl (!decide (xs = ys))) H
def rEqT0 (K : PySem.W.Frag) : R2 := fun x y H Q => ∃ (a b : Addr) (xs ys : List Int), x = .ref a ∧ y = .ref b ∧ SqT K H a (xs.map V.int) ∧ SqT K H b (ys.map V.int) ∧ Q (.bl (decide (xs = ys))) H
/-- two lists of ints -/
def rNeL (K : PySem.W.Frag) : R2 := fun x y H Q => ∃ (a b : Addr) (xs ys : List Int), x = .ref a ∧ y = .ref b ∧ SqL K H a (xs.map V.int) ∧ SqL K H b (ys.map V.int) ∧ Q (.bl (!decide (xs = ys))) H
end
end L2
namespace L2
open PySem PySem.Spec PyProof.Rows
section
variable {X : Cx}
end
end L2

/-! ### a comprehension one of whose names is taken along by a block within -/
namespace L2
open PySem PySem.Spec PyProof.Rows
def compEnv1 (scope : Scope) (yc : Str) (cl : List (Str × Addr)) (C : Addr) (env : Env) : Env :=
  { scope := relabel scope env, locals := C, globals := env.globals, cells := (yc, C + 1) :: cl, qual := env.qual, func := none, code := env.code, frame := env.frame, builtins := env.builtins }
def cxComp1 (X : Cx) (pl : List (Addr × Obj)) (N' : List Str) (scope : Scope) (yc : Str) (fp : List Addr) (s3 : Shared) (H3 : Hp) : Cx where
  prog := X.prog
  w := X.w
  K := X.K
  mg := X.mg
  base := X.base
  A := X.A
  N := N'
  s₀ := s3
  H₀ := H3
  env := compEnv1 scope yc (clOf X.env.cells scope.names []) s3.heap.objs.size X.env
  outer := X.stack
  stack := X.stack
  ex := fp
  fn := fun x => x == yc
  calm := X.calm
  pn := pl
  xe := fun _ _ => False
/-- what the block's text must be: its one cell is yc -/
structure CompSc1 (X : Cx) (scope : Scope) (yc : Str) : Prop where
  kind : scope.kind = .function
  cf : ∀ n acc, cellsFrom n scope.names acc = (yc, n) :: acc
  own : scope.names.lookup yc = some .cell
  one : ∀ y ∈ scope.names, y.2 = .cell → y.1 = yc
  names : ∀ y ∈ scope.names, y.2 = .local → scope.names.lookup y.1 = some .local
  free : ∀ y ∈ scope.names, y.2 = .free → X.env.kindOf y.1 = some .cell
section
variable {X : Cx} {pins : List (Addr × Obj)} {σ : St} {H3 : Hp} {s3 : Shared} {scope : Scope} {fp : List Addr} {N' own cn : List Str} {ci : List Nat} {cv : List V} {yc : Str}
end
def cscOk1 (outer inner : Scope) (yc : Str) : Bool := inner.names.all fun y => (y.2 != .cell || y.1 == yc) && (y.2 != .local || inner.names.lookup y.1 == some .local) && (y.2 != .free || outer.names.lookup y.1 == some .cell)
end L2
namespace L2
open PySem PySem.Spec PyProof.Rows
/-! ### list(range(n)), sorted of a list of ints -/
def tLRange (ta : TA) : TE := fun σ H Q => ta σ H fun vs H1 => ∃ j : Int, vs = [.int j] ∧ 0 ≤ j ∧ j ≤ 1000 ∧ ∀ l, H1 l = none → Q (.ref l) (upd H1 l (.lst ((WM.lowTo j.toNat).map V.int)))
theorem vals_low : ∀ (vs : List Value) (n : Nat), vs.length = n → (∀ (j : Nat) (v : Value), vs[j]? = some v → ∃ t, v = .int (0 + (j : Int) * 1) t) → Vals ((WM.lowTo n).map V.int) vs := by
  have key : ∀ (vs : List Value) (a : Nat), (∀ (j : Nat) (v : Value), vs[j]? = some v → ∃ t, v = .int ((a + j : Nat) : Int) t) → Vals ((List.range' a vs.length).map fun (i : Nat) => V.int (i : Int)) vs := by
    intro vs
    induction vs with
    | nil => intro _ _; exact .nil
    | cons v r ih =>
      intro a h
      obtain ⟨t, ht⟩ := h 0 v rfl
      rw [List.length_cons, List.range'_succ, List.map_cons]
      refine .cons ⟨t, by rw [ht]; rfl⟩ (ih (a + 1) fun j u hj => ?_)
      obtain ⟨t', ht'⟩ := h (j + 1) u hj
      exact ⟨t', by rw [ht']; congr 1; omega⟩
  intro vs n e h
  subst e
  have := key vs 0 fun j v hj => by
    obtain ⟨t, ht⟩ := h j v hj
    exact ⟨t, by rw [ht]; congr 1; omega⟩
  unfold WM.lowTo
  rw [List.map_map, List.range_eq_range']
  exact this
section
variable {X : Cx}
theorem pe_lrange {a : Expr} {ta : TA} {p1 p2 pos1 pos2 : Pos} (hc : X.calm = true) (hgL : Gl X "list") (hmL : X.mg "list" = none) (hgR : Gl X "range") (hmR : X.mg "range" = none) (ha : PA X [a] ta) (hs : starEach [a] X.env = [(false, eval a X.env)] := by rfl)
    (he : starEach [.Call (.Name "range" p2) [a] [] pos2] X.env = [(false, eval (.Call (.Name "range" p2) [a] [] pos2) X.env)] := by rfl) : PE X (.Call (.Name "list" p1) [.Call (.Name "range" p2) [a] [] pos2] [] pos1) (tLRange ta) := by
  intro pins s σ H Q I h
  refine wpAny_Call_Name_kw (ld_blt I hgL hmL (by decide +kernel : bootBuiltins "list" = some (.type "list")) ?_ (by decide) (by decide))
  refine PyProof.Rows.callWith_type1 ?_ he rfl
  rw [he]
  refine Calls.spliced_cons ?_
  refine Call_ (ld_blt I hgR hmR boot_range (PyProof.Rows.callWith_type1 (thn (ha pos2 pins s σ H _ I h) fun us s1 ⟨vs, H1, I1, r1, q1⟩ => ?_) hs rfl))
  obtain ⟨j, e, h0, h1, q⟩ := q1
  subst e
  cases r1 with
  | cons r rr =>
    cases rr
    obtain ⟨t, rfl⟩ := r
    refine call_range_1 ?_
    refine Calls.spliced_nil ?_
    have hz : Builtin.Range.rangeSize 0 j 1 = (j.toNat : Int) := by rw [rangeSize_one]; split <;> omega
    refine call_list_range (I.ok.hd hc) (IsRange.new ..) (small_one (by omega) (by omega) (by omega) (by omega)) hz (by omega) fun h' tk acc c' kp hD hI => ?_
    have kp1 : ∀ b o, s1.heap.get? b = some o → h'.get? b = some o := fun b o e => kp b o (Heap.get?_push_of_some _ e)
    have rv : Vals ((WM.lowTo j.toNat).map V.int) acc.toList := vals_low acc.toList _ (by rw [Array.length_toList]; exact hI.1) fun i v hi => hI.2 i v (by rw [← hi, Array.getElem?_toList])
    have hsz : s1.heap.objs.size ≤ (s1.heap.push { cls := .type "range", data := .fields #[.int 0 s1.toks, .int j t, .int 1 (s1.toks + 1)] }).objs.size := by rw [Heap.size_push]; exact Nat.le_succ _
    refine ⟨.ref _, _, I1.laid (t' := tk) kp1 hsz (show ObjOk X.prog X.w _ h' _ (.lst ((WM.lowTo j.toNat).map V.int)) from ⟨?_, acc.toList, c', rv, by rw [Array.toArray_toList]; exact hD⟩), rfl, q _ (I1.hok.fresh hsz)⟩
    rw [List.length_map, WM.lowTo, List.length_map, List.length_range]
    have : sizeLine = 16777216 := rfl
    omega
theorem call_sortedI : CallR X (.builtin "sorted") (fun xs H Q => ∃ (p : Addr) (ns : List Int), xs = [.ref p] ∧ SqL X.K H p (ns.map V.int) ∧ ns.length < 64 ∧
    ∀ (l : Addr) (ms : List Int), H l = none → ms.Perm ns → ms.Pairwise (· ≤ ·) → Q (.ref l) (upd H l (.lst (ms.map V.int)))) := by
  intro pins s σ H xs us Q I r h
  obtain ⟨p, ns, rfl, hq, h64, q⟩ := h
  obtain ⟨u, rfl, rx⟩ := vals1 r
  cases rx
  obtain ⟨its, r', pl, hz⟩ := I.list hq
  have hI : IntsAre its ns := intsAre_of r'
  have hl := hI.length
  refine SortT.sorted_list (O := intO) (key := fun i => ns.getD i 0) (κ := oneType') pl.isList (by omega) (fun h2 s' a fa kp => asks_ints hI h2) fun D h' out c pt hD kp ho => ?_
  obtain ⟨ms, hp, hr, rz, hlz⟩ := put_ints hI pt
  refine ⟨.ref D, _, sorted_fin (t' := s.toks) I hD kp ho rz ?_, rfl, q D ms (I.hok.fresh hD) hp hr⟩
  have : sizeLine = 16777216 := rfl
  rw [List.length_map]
  omega
end
section
variable {X : Cx} {pl : List (Addr × Obj)} {N' : List Str} {sc : Scope} {fp : List Addr} {s3 : Shared} {H3 : Hp}
theorem call_len_seqC : CallR (cxComp X pl N' sc fp s3 H3) (.builtin "len") (fun xs H Q => ∃ p ys, xs = [.ref p] ∧ (SqL X.K H p ys ∨ SqT X.K H p ys) ∧ Q (.int ys.length) H) := call_len_seq
end
section
variable {X : Cx}
/-- a list against the written empty one -/
def rNeE (K : PySem.W.Frag) : R2 := fun x y H Q => ∃ (a b : Addr) (xs : List V), x = .ref a ∧ y = .ref b ∧ SqL K H a xs ∧ SqL K H b [] ∧ Q (.bl (!xs.isEmpty)) H
def rEqE (K : PySem.W.Frag) : R2 := fun x y H Q => ∃ (a b : Addr) (xs : List V), x = .ref a ∧ y = .ref b ∧ SqL K H a xs ∧ SqL K H b [] ∧ Q (.bl xs.isEmpty) H
theorem op_neE (hu : X.A.units < cLine) : OpR X (compareOp .NotEq) (rNeE X.K) := by
  intro pins s σ H x y v u Q I rx ry h
  obtain ⟨a, b, xs, rfl, rfl, ha, hb, q⟩ := h
  cases rx
  cases ry
  obtain ⟨its, r, pl, hz⟩ := I.list ha
  obtain ⟨its2, r2, pl2, hz2⟩ := I.list hb
  have l1 := r.length
  have l2 := r2.length
  cases xs with
  | nil =>
    refine PySem.EqBoolInt.of_rcne (SeqAt.RcNeAt.lists (e := fun _ => true) pl.isList pl2.isList (by rw [List.size_toArray, List.size_toArray, ← l1, ← l2]) hu (fun j a b => absurd a (by rw [List.size_toArray, ← l1]; exact Nat.not_lt_zero _))) ⟨.bl _, H, I, rfl, ?_⟩
    rw [List.size_toArray, ← l1]
    exact q
  | cons x xs =>
    refine PySem.EqBoolInt.of_rcne (SeqAt.RcNeAt.lists_lengths pl.isList pl2.isList (by rw [List.size_toArray, List.size_toArray, ← l1, ← l2]; rfl) hu) ⟨.bl _, H, I, rfl, ?_⟩
    exact q
end
end L2
namespace L2
open PySem PyProof.Rows
/-! ### min(.., default = ..) -/
def Kp (s0 : Shared) (h : Heap) : Prop := ∀ b o, s0.heap.get? b = some o → h.get? b = some o
structure MinIt (prog : Program) (w : World) (A : Around) (s0 : Shared) (I : Addr) (its : List Value) (itAt : Nat → Heap → Prop) : Prop where
  stay : ∀ j h h', itAt j h → h'.get? I = h.get? I → itAt j h'
  next : ∀ (j : Nat) (h : Heap) (tk : Nat) (v : Value) (Q : Option Value → Shared → Prop) (E : Value → Shared → Prop), Kp s0 h → itAt j h → its[j]? = some v →
    (∀ h', itAt (j + 1) h' → (∀ b, b ≠ I → h'.get? b = h.get? b) → Q (some v) { s0 with heap := h', toks := tk }) → wpAny (model prog w) A (pyNext (.ref I)) Q E { s0 with heap := h, toks := tk }
  fin : ∀ (j : Nat) (h : Heap) (tk : Nat) (Q : Option Value → Shared → Prop) (E : Value → Shared → Prop), Kp s0 h → itAt j h → its[j]? = none →
    (∀ h', (∀ b o, b ≠ I → h.get? b = some o → h'.get? b = some o) → Q none { s0 with heap := h', toks := tk }) → wpAny (model prog w) A (pyNext (.ref I)) Q E { s0 with heap := h, toks := tk }
section
variable {prog : Program} {w : World} {A : Around} {s0 : Shared} {I S : Addr} {its : List Value} {itAt : Nat → Heap → Prop}
theorem Kp.upd {h : Heap} {f : Obj → Obj} (K : Kp s0 h) (hS : s0.heap.objs.size ≤ S) : Kp s0 (h.update S f) := fun b o e => by
  rw [Heap.get?_update_ne _ _ _ _ (Nat.ne_of_lt (Nat.lt_of_lt_of_le (Heap.lt_size e) hS))]; exact K b o e
theorem Kp.but {h h' : Heap} (K : Kp s0 h) (hI : s0.heap.objs.size ≤ I) (k : ∀ b o, b ≠ I → h.get? b = some o → h'.get? b = some o) : Kp s0 h' := fun b o e =>
  k b o (Nat.ne_of_lt (Nat.lt_of_lt_of_le (Heap.lt_size e) hI)) (K b o e)
end
end L2
namespace L2
open PySem PyProof.Rows
theorem wpAny_of_eq {α : Type} {M : Model} {A : Around} {E : Value → Shared → Prop} {s : Shared} {m m' : Sem α} {Q : α → Shared → Prop} (e : m = m') (h : wpAny M A m' Q E s) : wpAny M A m Q E s := by subst e; exact h
section
variable {X : Cx}
/-- min(p, default = d): p a list or tuple, of tuples of ints or of ints -/
def rMinD (K : PySem.W.Frag) (x dv : V) (H : Hp) (Q : VK) : Prop := ∃ (p : Addr) (ys : List V), x = .ref p ∧ (SqL K H p ys ∨ SqT K H p ys) ∧ (ys = [] → Q dv H) ∧
  ((∃ ks, TupsAre H ys ks ∧ ∀ (i : Nat) (y : V) (k : List Int), ys[i]? = some y → ks[i]? = some k → (∀ k' ∈ ks, HT.lexLt k' k = false) → Q y H) ∨ (∃ ns : List Int, ys = ns.map V.int ∧ ∀ n ∈ ns, (∀ m ∈ ns, n ≤ m) → Q (.int n) H))
def tMinD (K : PySem.W.Frag) (t : TA) (td : TE) : TE := fun σ H Q => t σ H fun vs H1 => ∃ x, vs = [x] ∧ td σ H1 fun dv H2 => rMinD K x dv H2 Q
end
end L2
namespace L2
open PySem PyProof.Rows
/-! ### dict(list of pairs) -/
def stAll (qs : List (Key × Value)) : List (Key × Value) := qs.foldl (fun a q => stored a q.1 q.2) []
section
variable {prog : Program} {w : World} {A : Around} {s0 : Shared} {D I l : Addr} {its : List Value} {qs : List (Key × Value)}
end
section
variable {X : Cx}
/-- the items are pairs of a key and a value -/
def PairsAre (H : Hp) (ys : List V) (ps : List (Key × V)) : Prop := ps.length = ys.length ∧ ∀ (i : Nat) (y : V), ys[i]? = some y → ∃ (p : Addr) (k : Key) (v : V), y = .ref p ∧ H p = some (.tup [kV k, v]) ∧ ps[i]? = some (k, v)
def putAll (ps : List (Key × V)) : List (Key × V) := ps.foldl (fun a p => putK a p.1 p.2) []
end
end L2
namespace L2
open PySem PySem.Spec PyProof.Rows
/-! ### isinstance, all, set, len of a set, index -/
section
variable {X : Cx}
theorem pe_tyN {x : Str} {T : String} {pos : Pos} (hg : Gl X x) (hm : X.mg x = none) (hv : bootBuiltins x = some (.type T)) (hn : x ≠ "__name__" := by decide) (hdb : (x == ("__debug__" : Str)) = false := by decide) : PE X (.Name x pos) (tC (.ty T)) :=
  fun pins s σ H Q I h => ld_blt I hg hm hv ⟨.ty T, H, I, rfl, h⟩ hn hdb
theorem call_isinst : CallR X (.builtin "isinstance") (fun xs H Q => ∃ x T t b, xs = [x, .ty T] ∧ TyOf X.K H x t ∧ PySem.W.kitOne X.K t (.type T) = some b ∧ Q (.bl b) H) := by
  intro pins s σ H xs us Q I r h
  obtain ⟨x, T, t, b, rfl, ty, e, q⟩ := h
  obtain ⟨u, w', rfl, rx, rT⟩ := vals2 r
  cases (show w' = Value.type T from rT)
  exact isinst_ok I rx ty e fun tk => ⟨.bl b, H, I.tok tk, rfl, q⟩
theorem ps_no {st : Stmt} : PS X st (fun _ _ _ => False) := fun _ _ _ _ _ _ h => h.elim
end
section
variable {prog : Program} {w : World} {A : Around} {s0 : Shared} {I l : Addr} {bs : List Bool}
theorem all_loop {R : Result → Shared → Prop} (hA : A.handled = none) (hI : s0.heap.objs.size ≤ I) (hl : s0.heap.IsList l (bs.map Value.bool).toArray)
    (hR : ∀ (h : Heap) (tk : Nat), Kp s0 h → R (.ok (.ret (.bool (bs.all id)))) { s0 with heap := h, toks := tk }) :
    ∀ (r j : Nat) (h : Heap) (tk : Nat), bs.length - j = r → j ≤ bs.length → Kp s0 h → h.IsListIter I l j → (bs.take j).all id = true →
      codeAny (model prog w) A (.builtin "all.loop" { pos := [.ref I] }) R { s0 with heap := h, toks := tk } := by
  have hl' : ∀ h, Kp s0 h → h.IsList l (bs.map Value.bool).toArray := fun h K => by
    obtain ⟨o, ho, hc⟩ := hl
    exact ⟨o, K _ _ ho, hc⟩
  intro r
  induction r with
  | zero =>
    intro j h tk hr hj K hit ha
    refine codeAny_builtin PySem.F.entry_all_loop ?_
    unfold Builtin.«all.loop»
    refine wpAny_bind (wpAny_pyNext_list_end hA hit (hl' h K) (by rw [List.getElem?_toArray]; exact List.getElem?_eq_none (by rw [List.length_map]; omega)) fun h' b => ?_)
    refine wpAny_bind (wpAny_rule (wpAny_pure ?_))
    rw [List.take_of_length_le (by omega)] at ha
    have := hR h' tk (K.but hI b)
    rw [ha] at this
    exact this
  | succ r ih =>
    intro j h tk hr hj K hit ha
    obtain ⟨x, hx⟩ : ∃ x, bs[j]? = some x := ⟨_, List.getElem?_eq_getElem (by omega)⟩
    refine codeAny_builtin PySem.F.entry_all_loop ?_
    unfold Builtin.«all.loop»
    refine wpAny_bind (wpAny_pyNext_list_item hit (hl' h K) (x := .bool x) (by rw [List.getElem?_toArray, List.getElem?_map, hx]; rfl) fun h' hit' b => ?_)
    have K' : Kp s0 h' := K.but hI fun c o hc e => by rw [b.2 c hc]; exact e
    refine wpAny_bind (wpAny_holding (wpAny_truthy_bool (wpAny_bind (wpAny_letGo ?_))))
    cases x with
    | true =>
      refine wpAny_pure ⟨rfl, ?_⟩
      exact ih (j + 1) h' tk (by omega) (by omega) K' hit' (by rw [List.take_add_one, hx, List.all_append, ha]; rfl)
    | false =>
      refine wpAny_bind (wpAny_rule (wpAny_pure ?_))
      have e : bs.all id = false := by
        cases z : bs.all id with
        | false => rfl
        | true => have := List.all_eq_true.mp z false (List.mem_of_getElem? hx); simp at this
      have := hR h' tk K'
      rw [e] at this
      exact this
end
section
variable {X : Cx}
theorem bools_of : ∀ {bs : List Bool} {its : List Value}, Vals (bs.map V.bl) its → its = bs.map Value.bool
  | [], [], _ => rfl
  | b :: bs, u :: its, h => by
    cases h with
    | cons h1 h2 => rw [List.map_cons, ← bools_of h2, show u = Value.bool b from h1]
  | [], _ :: _, h => by cases h
  | _ :: _, [], h => by cases h
theorem call_all (hc : X.calm = true) : CallR X (.builtin "all") (fun xs H Q => ∃ (p : Addr) (bs : List Bool), xs = [.ref p] ∧ SqL X.K H p (bs.map V.bl) ∧ Q (.bl (bs.all id)) H) := by
  intro pins s σ H xs us Q I r h
  obtain ⟨p, bs, rfl, hq, q⟩ := h
  obtain ⟨u, rfl, rx⟩ := vals1 r
  cases rx
  obtain ⟨its, r', pl, hz⟩ := I.list hq
  rw [bools_of r'] at pl
  refine wpAny_call (codeAny_call_builtin PySem.F.plain_all PySem.F.entry_all (wpAny_of_eq (m' := pure ()) rfl (wpAny_pure ?_)))
  unfold Builtin.all
  refine wpAny_bind (wpAny_of_eq (m' := pure (Value.ref p)) rfl (wpAny_pure (wpAny_bind (wpAny_pyIter_list pl.isList (wpAny_pure ⟨rfl, ?_⟩)))))
  refine all_loop (s0 := s) (l := p) (bs := bs) (I.ok.hd hc) (Nat.le_refl _) pl.isList ?_ bs.length 0 _ s.toks rfl (Nat.zero_le _) (fun b o e => Heap.get?_push_of_some _ e) ?_ rfl
  · exact fun h tk K => ⟨.bl _, H, I.kept K, rfl, q⟩
  · exact ⟨_, Heap.get?_push_size _ rfl, rfl, rfl⟩
end
/-! ### set(t) of a tuple of ints -/
end L2
namespace L2
open PySem PySem.Spec PyProof.Rows
end L2
namespace L2
open PySem PySem.Spec PyProof.Rows
section
variable {X : Cx}
/-- o.m(..), o a tuple that is tracked -/
def tBMT (r : V → List V → Hp → VK → Prop) (to : TE) (t : TA) : TE := fun σ H Q => to σ H fun x H1 => (∃ p ys, x = .ref p ∧ H1 p = some (.tup ys)) ∧ t σ H1 fun xs H2 => r x xs H2 Q
variable {o e : Expr} {es : List Expr} {to : TE} {t : TA} {name : Str} {apos cpos : Pos} {id : String} {r : V → List V → Hp → VK → Prop}
end
section
variable {prog : Program} {w : World} {A : Around} {E : Value → Shared → Prop}
end
section
variable {X : Cx}
end
section
variable {X : Cx} {pl : List (Addr × Obj)} {N' : List Str} {sc : Scope} {fp : List Addr} {s3 : Shared} {H3 : Hp}
end
end L2
namespace L2
open PySem PySem.Spec PyProof.Rows
section
variable {X : Cx}
theorem call_maxL (hc : X.calm = true) : CallR X (.builtin "max") (fun xs H Q => ∃ (p : Addr) (ns : List Int), xs = [.ref p] ∧ SqL X.K H p (ns.map V.int) ∧ ns ≠ [] ∧ ∀ M, M ∈ ns → (∀ a ∈ ns, a ≤ M) → Q (.int M) H) := by
  intro pins s σ H xs us Q I r h
  obtain ⟨p, ns, rfl, hq, hne, q⟩ := h
  obtain ⟨u, rfl, rx⟩ := vals1 r
  cases rx
  obtain ⟨its, rv, pl, hz⟩ := I.list hq
  have hi := intsAre_of rv
  have hil := hi.length
  have hlp : p < s.heap.objs.size := by
    obtain ⟨o, _, ho, _⟩ := pl
    exact Heap.lt_size ho
  have hpos : 0 < ns.length := List.length_pos_iff.mpr hne
  refine call_max_walk (wpAny_pyIter_list pl.isList ⟨s.heap.objs.size, [s.heap.objs.size, p], [s.heap.objs.size], its.toArray.size, _, _, fun i j => decide (ns.getD i 0 > ns.getD j 0), rfl, Walks.list (A := X.A.in1) (I.ok.hd hc) s.heap.objs.size p (Nat.ne_of_lt hlp) its.toArray, ⟨?_, ?_⟩, ?_, by simpa [hil] using hpos, ?_, fun v h' tk hv kp => ?_⟩)
  · exact ⟨_, Heap.get?_push_size _ rfl, rfl, rfl⟩
  · obtain ⟨o, ho, hr⟩ := pl.isList
    exact ⟨o, Heap.get?_push_of_some _ ho, hr⟩
  · intro b hb
    rw [Heap.size_push]
    rcases List.mem_cons.mp hb with rfl | hb
    · exact Nat.lt_succ_self _
    · rw [List.mem_singleton.mp hb]; exact Nat.lt_succ_of_lt hlp
  · intro i j vi vj s' Q' E' hvi hvj q'
    have hvi' : its[i]? = some vi := by simpa using hvi
    have hvj' : its[j]? = some vj := by simpa using hvj
    obtain ⟨t1, rfl⟩ := hi.int_at i vi hvi'
    obtain ⟨t2, rfl⟩ := hi.int_at j vj hvj'
    exact PyProof.Rows.gt_int q'
  · obtain ⟨b1, b2⟩ := argBest_gt (fun i => ns.getD i 0) (its.toArray.size - 1)
    have hv' : its[argBest (fun i j => decide (ns.getD i 0 > ns.getD j 0)) (its.toArray.size - 1)]? = some v := by simpa using hv
    generalize eb : argBest (fun i j => decide (ns.getD i 0 > ns.getD j 0)) (its.toArray.size - 1) = bi at hv' b1 b2
    obtain ⟨t, rfl⟩ := hi.int_at bi v hv'
    have hlt : bi < ns.length := by have := (List.getElem?_eq_some_iff.mp hv').1; omega
    have hK : Kp s h' := fun b o e => kp b o (fun z => absurd (List.mem_singleton.mp z) (Nat.ne_of_lt (Heap.lt_size e))) (Heap.get?_push_of_some _ e)
    refine ⟨.int (ns.getD bi 0), H, I.kept hK, ⟨t, rfl⟩, q _ ?_ fun m hm => ?_⟩
    · rw [List.getD_eq_getElem?_getD, List.getElem?_eq_getElem hlt]; exact List.getElem_mem hlt
    · obtain ⟨j, hj, ej⟩ := List.getElem_of_mem hm
      have := b2 j (by rw [List.size_toArray]; omega)
      have g1 : ns.getD j 0 = m := by rw [List.getD_eq_getElem?_getD, List.getElem?_eq_getElem hj, ej]; rfl
      rw [g1] at this
      exact this
end
end L2
namespace L2
open PySem PySem.Spec PyProof.Rows
section
variable {prog : Program} {w : World} {A : Around} {s : Shared} {l : Addr} {its : List Value} {ns : List Int} {v : Int} {tv : Tok}
end
section
variable {X : Cx}
end
end L2
namespace WM
open L2
/-! ### labels: entries, sums, the least -/
structure En where
  h : Int
  l : Int
  u : Option Int
  d : Option Int
/-- a sum of two longs of one hub, with the hub -/
def Cd (es fs : List En) (c : Int × Int) : Prop := ∃ e ∈ es, ∃ f ∈ fs, f.h = e.h ∧ c = (e.l + f.l, e.h)
/-- the least one, by the sum, then the hub -/
def LMin (P : Int × Int → Prop) : Option (Int × Int) → Prop
  | none => ∀ c, ¬ P c
  | some c => P c ∧ ∀ c', P c' → c.1 < c'.1 ∨ (c.1 = c'.1 ∧ c.2 ≤ c'.2)
/-- hubs rise -/
def Hub (es : List En) : Prop := es.Pairwise fun a b => a.h < b.h
def entE (es : List En) (h : Int) : Option En := es.find? fun e => decide (e.h = h)
/-- the next step by two labels -/
def stepE (es fs : List En) (o p : Int) : Option (Int × Int) → Option Int
  | none => none
  | some c => if o = p then none else if c.2 = o then (entE fs c.2).bind (·.d) else (entE es c.2).bind (·.u)
def cOf (fs : List En) (e : En) : Option (Int × Int) := (entE fs e.h).map fun f => (e.l + f.l, e.h)
end WM
namespace L2
open PySem PyProof.Rows
end L2
namespace WM
/-! ### labels that tell right -/
structure EG (ts : List T3) (n v : Int) (e : En) : Prop where
  rng : 0 ≤ e.h ∧ e.h < n
  len : IsD ts v e.h e.l
  up : e.h ≠ v → ∃ p, e.u = some p ∧ Nxt ts v e.h p
  dn : e.h ≠ v → ∃ p, e.d = some p ∧ Nxt ts e.h v p
structure LG (ts : List T3) (n v : Int) (es : List En) : Prop where
  hub : Hub es
  ent : ∀ e ∈ es, EG ts n v e
  own : ∃ e ∈ es, e.h = v
def CovP (ts : List T3) (v w : Int) (es fs : List En) : Prop := ∀ d, IsD ts v w d → ∃ h, Btw ts v w h ∧ (∃ e ∈ es, e.h = h) ∧ ∃ f ∈ fs, f.h = h
end WM
namespace L2
open PySem PySem.Spec PyProof.Rows
section
variable {X : Cx}
/-- repr, of things with longer ints -/
structure FnG (d : PyData) : Prop where
  ln : d.shown.length ≤ sizeLine
  hd : d.hasDict = false
  dp : d.depth ≤ 50
  sw : d.showable = true
end
def oDt : Option Int → PyData
  | none => .none
  | some d => .int d
end L2
namespace SortT
open PySem PySem.W PySem.Calls PyProof.Rows
section
variable {prog : Program} {w : World} {A : Around} {E : Value → Shared → Prop} {s : Shared}
end
end SortT
namespace L2
open PySem PySem.Spec PyProof.Rows
section
variable {X : Cx}
end
section
variable {X : Cx} {pl : List (Addr × Obj)} {N' : List Str} {sc : Scope} {fp : List Addr} {s3 : Shared} {H3 : Hp}
end
end L2
namespace L2
open PySem PySem.Spec PyProof.Rows
section
variable {X : Cx}
/-- t + u of tuples, whatever is empty -/
def rCatA (K : PySem.W.Frag) : R2 := fun x y H Q => ∃ a b xs ys, x = .ref a ∧ y = .ref b ∧ SqT K H a xs ∧ SqT K H b ys ∧ xs.length + ys.length ≤ sizeLine ∧
  (xs = [] → Q (.ref b) H) ∧ (xs ≠ [] → ys = [] → Q (.ref a) H) ∧ (xs ≠ [] → ys ≠ [] → ∀ p, H p = none → Q (.ref p) (upd H p (.tup (xs ++ ys))))
theorem cat_nil {prog : Program} {w : World} {A : Around} {E : Value → Shared → Prop} {s : Shared} {t b : Addr} {ws : List Value} {Q : Value → Shared → Prop} (ht : IsTup s.heap t #[]) (hb : IsTup s.heap b ws.toArray)
    (h : Q (.ref b) s) : wpAny (model prog w) A (binaryOp .Add (.ref t) (.ref b)) Q E s := by
  obtain ⟨⟨cls, dd, data, sl⟩, ho, hc, n, hd⟩ := id ht
  obtain ⟨⟨cls2, dd2, data2, sl2⟩, ho2, hc2, n2, hd2⟩ := id hb
  simp only at hc hd hc2 hd2
  subst hc hd hc2 hd2
  exact concat_meets ⟨_, ho, rfl⟩ ⟨_, ho2, rfl⟩ noFill_tuple_add seq_tuple_add PySem.F.slot_tuple_add PySem.F.entry_tuple_add (PySem.F.args_tuple_add_2 _ _)
    (tuple_addW0 t b #[] ws.toArray n n2 dd dd2 sl sl2 rfl) ⟨ho, ho2, h⟩
theorem op_catA : OpR X (binaryOp .Add) (rCatA X.K) := by
  intro pins s σ H x y v u Q I rx ry h
  obtain ⟨a, b, xs, ys, rfl, rfl, ha, hb, hz, q0, q1, q2⟩ := h
  by_cases hx : xs = []
  · subst hx
    cases rx
    cases ry
    obtain ⟨its, r1, p1, _⟩ := I.tuple ha
    obtain ⟨its2, r2, p2, _⟩ := I.tuple hb
    cases r1
    exact cat_nil p1 p2 ⟨.ref b, H, I, rfl, q0 rfl⟩
  · exact op_catT pins s σ H _ _ v u Q I rx ry ⟨a, b, xs, ys, rfl, rfl, ha, hb, hx, hz, q1 hx, q2 hx⟩
end
end L2
namespace L2
open PySem PySem.Spec PyProof.Rows
section
variable {X : Cx}
/-- str(i) -/
theorem call_strI : CallR X (.type "str") (fun xs H Q => ∃ i : Int, xs = [.int i] ∧ i.natAbs < 1000000000 ∧ Q (.str (Str.ofString (toString i))) H) := by
  intro pins s σ H xs us Q I r h
  obtain ⟨i, rfl, hi, q⟩ := h
  obtain ⟨u, rfl, rx⟩ := vals1 r
  obtain ⟨t, rfl⟩ := rx
  exact str_of_int_fit (N := 1000000000) (by split <;> omega) (by decide) fun _ => ⟨.str _, H, I.tok _, ⟨_, rfl⟩, q⟩
/-- a tuple against the written empty one -/
def rNeTE (K : PySem.W.Frag) : R2 := fun x y H Q => ∃ (a b : Addr) (xs : List V), x = .ref a ∧ y = .ref b ∧ SqT K H a xs ∧ SqT K H b [] ∧ Q (.bl (!xs.isEmpty)) H
theorem op_neTE (hu : X.A.units < cLine) : OpR X (compareOp .NotEq) (rNeTE X.K) := by
  intro pins s σ H x y v u Q I rx ry h
  obtain ⟨a, b, xs, rfl, rfl, ha, hb, q⟩ := h
  cases rx
  cases ry
  obtain ⟨its, r, pl, hz⟩ := I.tuple ha
  obtain ⟨its2, r2, pl2, hz2⟩ := I.tuple hb
  have l1 := r.length
  have e2 : its2 = [] := by cases r2; rfl
  subst e2
  refine PySem.EqBoolInt.of_rcne (SeqAt.RcNeAt.tuples (e := fun _ => true) pl pl2 hu (fun j _ h2 => absurd h2 (by simp))) ⟨.bl _, H, I, rfl, ?_⟩
  have e : (!((List.range (min its.toArray.size ([] : List Value).toArray.size)).all (fun _ => true) && its.toArray.size == ([] : List Value).toArray.size)) = !xs.isEmpty := by
    cases xs with
    | nil => cases r; rfl
    | cons x xs => cases r; simp
  rw [e]
  exact q
end
end L2
namespace HT
open PySem PySem.Spec PyProof.Rows
def lexLe (ns ms : List Int) : Bool := !lexLt ms ns
section
open PySem.SeqAt
open PySem.AutoSeq1 (wpAny_loadPart')
open PySem.MeetsSeq PySem.MeetsSeq2 PySem.MeetsSeq3
end
end HT
namespace L2
open PySem PySem.Spec PyProof.Rows
section
variable {X : Cx}
def rLeT (K : PySem.W.Frag) : R2 := fun x y H Q => ∃ a b ns ms, x = .ref a ∧ y = .ref b ∧ SqT K H a (ns.map V.int) ∧ SqT K H b (ms.map V.int) ∧ Q (.bl (HT.lexLe ns ms)) H
end
end L2
namespace HT
open PySem PySem.Spec PyProof.Rows
section
variable {prog : Program} {w : World} {A : Around} {E : Value → Shared → Prop} {s : Shared}
/-- t[lo:hi], the whole of it: t itself -/
theorem getItem_tuple_all {t sl : Addr} {items : Array Value} {vl vu : Value} {lo hi : Option Int} {Q : Value → Shared → Prop} (ht : IsTup s.heap t items) (hs : s.heap.IsSliceOf sl vl vu .none) (pl : IsPart vl lo) (pu : IsPart vu hi)
    (hw : sIx items.size 0 lo = 0 ∧ sIx items.size items.size hi = items.size) (h : Q (.ref t) s) : wpAny (model prog w) A (getItem (.ref t) (.ref sl)) Q E s := by
  obtain ⟨os, hos, hcs, hds⟩ := id hs
  have hTs : s.TypeIs (.ref sl) "slice" := ⟨os, hos, hcs⟩
  unfold getItem
  try with_reducible refine wpAny_holding ?_
  first | refine wpAny_bind (wpAny_pure ?_) | skip
  refine wpAny_bind (wpAny_sequenceKey ht.typeIs (by decide) ?_)
  refine wpAny_bind (wpAny_callSpecial?_slot (name := Str.ofString "__getitem__") ht.typeIs PyProof.Rows.slot_tuple_getitem
    (wpAny_call_entry PyProof.Rows.slot_tuple_getitem ht.typeIs entry_tuple_getitem ?_ (args_tuple_getitem _ _)))
  show wpAny _ _ (Builtin.Tuple.tupleItemsOf (.ref t) >>= _) _ _ s
  refine wpAny_bind (tupleItemsOf_ ht ?_)
  refine wpAny_bind (wpAny_typeOf hTs ?_)
  rw [if_pos (by decide)]
  refine wpAny_bind (sliceApplied_gen hs pl pu ?_)
  have hyes : (((sIx items.size 0 lo : Nat) : Int) == 0 && (1 : Int) == 1 && (sIx items.size items.size hi - sIx items.size 0 lo) == items.size) = true := by
    rw [hw.1, hw.2]; simp
  show wpAny _ _ (if (((sIx items.size 0 lo : Nat) : Int) == 0 && (1 : Int) == 1 && (sIx items.size items.size hi - sIx items.size 0 lo) == items.size) = true then _ else _) _ _ s
  rw [if_pos hyes]
  unfold Builtin.Tuple.tupleIsExact
  refine wpAny_bind (wpAny_bind (wpAny_typeOf ht.typeIs (wpAny_pure ?_)))
  rw [if_pos (by decide)]
  first
    | exact wpAny_bind (wpAny_rule (wpAny_pure ⟨_, rfl, wpAny_pure h⟩))
    | exact wpAny_bind (wpAny_rule (wpAny_pure (wpAny_pure ⟨_, rfl, wpAny_pure h⟩)))
    | exact wpAny_bind (wpAny_rule (wpAny_bind (wpAny_pure (wpAny_pure ⟨_, rfl, wpAny_pure h⟩))))
    | exact wpAny_rule (wpAny_pure ⟨_, rfl, wpAny_pure h⟩)
theorem sliceApplied_rev {sl : Addr} {vk : Value} {n : Nat} {os : Obj} {Q : Int × Int × Nat → Shared → Prop} (hos : s.heap.get? sl = some os) (hds : os.data = .fields #[.none, .none, vk]) (pk : IsPart vk (some (-1)))
    (h : Q ((n : Int) - 1, -1, n) s) : wpAny (model prog w) A (Builtin.Slice.sliceApplied (.ref sl) (pure (n : Int))) Q E s := by
  unfold Builtin.Slice.sliceApplied Builtin.Slice.sliceFields
  refine wpAny_bind (wpAny_bind (wpAny_field hos hds (x := .none) rfl (wpAny_bind (wpAny_field hos hds (x := .none) rfl (wpAny_bind (wpAny_field hos hds (x := vk) rfl (wpAny_pure ?_)))))))
  refine wpAny_bind (slicePart_ pk ?_)
  show wpAny _ _ (if ((-1 : Int) == 0) = true then _ else _) _ _ s
  rw [if_neg (by decide)]
  refine wpAny_bind (slicePart_none (wpAny_bind (slicePart_none (wpAny_bind (wpAny_pure ?_)))))
  have e : Builtin.Slice.sliceAdjust none none (-1) (n : Int) = ((n : Int) - 1, -1) := rfl
  show wpAny _ _ (match Builtin.Slice.sliceAdjust none none (-1) (n : Int) with | (lo, hi) => pure (lo, (-1 : Int), Builtin.Slice.slicePlaces lo hi (-1))) _ _ s
  rw [e]
  have e2 : Builtin.Slice.slicePlaces ((n : Int) - 1) (-1) (-1) = n := by
    unfold Builtin.Slice.slicePlaces
    rw [if_neg (by decide)]
    cases n with
    | zero => rfl
    | succ m =>
      rw [if_pos (by omega), Int.neg_neg, Int.ediv_one]
      omega
  show wpAny _ _ (pure ((n : Int) - 1, (-1 : Int), Builtin.Slice.slicePlaces ((n : Int) - 1) (-1) (-1))) _ _ s
  rw [e2]
  exact wpAny_pure h
theorem fm_congr {α β : Type} {f g : α → Option β} : ∀ {l : List α}, (∀ m ∈ l, f m = g m) → l.filterMap f = l.filterMap g
  | [], _ => rfl
  | a :: l, h => by
    have ih := fm_congr (l := l) fun m hm => h m (List.mem_cons_of_mem _ hm)
    rw [List.filterMap_cons, List.filterMap_cons, h a List.mem_cons_self, ih]
theorem pick_rev (xs : Array Value) : ((List.range xs.size).filterMap fun (m : Nat) => xs[(((xs.size : Int) - 1) + (m : Int) * (-1)).toNat]?).toArray = xs.toList.reverse.toArray := by
  have e : ((List.range xs.size).filterMap fun (m : Nat) => xs[(((xs.size : Int) - 1) + (m : Int) * (-1)).toNat]?) = ((List.range xs.size).map fun k => xs.size - 1 - k).filterMap (xs[·]?) := by
    rw [List.filterMap_map]
    apply fm_congr
    intro m hm
    have := List.mem_range.mp hm
    show xs[_]? = xs[_]?
    rw [show (((xs.size : Int) - 1) + (m : Int) * (-1)).toNat = xs.size - 1 - m by omega]
  rw [e, PySem.W.krv_range, List.filterMap_reverse, PySem.W.krv_all]
/-- t[::-1] -/
theorem getItem_tuple_rev {t sl : Addr} {items : Array Value} {vk : Value} {os : Obj} {Q : Value → Shared → Prop} (ht : IsTup s.heap t items) (hos : s.heap.get? sl = some os) (hcs : os.cls = .type "slice") (hds : os.data = .fields #[.none, .none, vk]) (pk : IsPart vk (some (-1)))
    (h : Q (.ref s.heap.objs.size) { s with heap := s.heap.push { cls := .type "tuple", data := .seq items.toList.reverse.toArray } }) (hsz : items.size ≤ sizeLine) : wpAny (model prog w) A (getItem (.ref t) (.ref sl)) Q E s := by
  have hTs : s.TypeIs (.ref sl) "slice" := ⟨os, hos, hcs⟩
  have htake : sizeOk (.seq items.toList.reverse.toArray) := by
    show items.toList.reverse.toArray.size ≤ sizeLine
    rw [List.size_toArray, List.length_reverse, Array.length_toList]
    exact hsz
  unfold getItem
  try with_reducible refine wpAny_holding ?_
  first | refine wpAny_bind (wpAny_pure ?_) | skip
  refine wpAny_bind (wpAny_sequenceKey ht.typeIs (by decide) ?_)
  refine wpAny_bind (wpAny_callSpecial?_slot (name := Str.ofString "__getitem__") ht.typeIs PyProof.Rows.slot_tuple_getitem
    (wpAny_call_entry PyProof.Rows.slot_tuple_getitem ht.typeIs entry_tuple_getitem ?_ (args_tuple_getitem _ _)))
  show wpAny _ _ (Builtin.Tuple.tupleItemsOf (.ref t) >>= _) _ _ s
  refine wpAny_bind (tupleItemsOf_ ht ?_)
  refine wpAny_bind (wpAny_typeOf hTs ?_)
  rw [if_pos (by decide)]
  refine wpAny_bind (sliceApplied_rev hos hds pk ?_)
  have hno : ¬ ((((items.size : Int) - 1) == 0 && (-1 : Int) == 1 && items.size == items.size) = true) := by
    intro q
    rw [Bool.and_eq_true, Bool.and_eq_true] at q
    exact absurd q.1.2 (by decide)
  show wpAny _ _ (if (((items.size : Int) - 1) == 0 && (-1 : Int) == 1 && items.size == items.size) = true then _ else _) _ _ s
  rw [if_neg hno, pick_rev]
  first
    | exact wpAny_bind (m := Builtin.Tuple.tupleExact _) (wpAny_newObj_type (wpAny_pure ⟨_, rfl, wpAny_pure h⟩) htake)
    | exact wpAny_bind (m := Builtin.Tuple.tupleExact _) (wpAny_newObj_type (wpAny_bind (wpAny_pure (wpAny_pure ⟨_, rfl, wpAny_pure h⟩))) htake)
    | exact wpAny_bind (wpAny_bind (m := Builtin.Tuple.tupleExact _) (wpAny_newObj_type (wpAny_pure (wpAny_pure ⟨_, rfl, wpAny_pure h⟩)) htake))
    | exact wpAny_bind (wpAny_bind (m := Builtin.Tuple.tupleExact _) (wpAny_newObj_type (wpAny_pure ⟨_, rfl, wpAny_pure h⟩) htake))
end
end HT
namespace L2
open PySem PySem.Spec PyProof.Rows
section
variable {X : Cx} {e : Expr} {te : TE} {pos p2 p3 p4 : Pos}
/-- t[lo:hi], whatever is left of it -/
def rSlA (K : PySem.W.Frag) : V → Option Int → Option Int → Hp → VK → Prop := fun x lo hi H Q => ∃ a xs, x = .ref a ∧ SqT K H a xs ∧
  ((HT.sIx xs.length 0 lo = 0 ∧ HT.sIx xs.length xs.length hi = xs.length) → Q (.ref a) H) ∧ (¬ (HT.sIx xs.length 0 lo = 0 ∧ HT.sIx xs.length xs.length hi = xs.length) → ∀ p, H p = none → Q (.ref p) (upd H p (.tup (cutV xs lo hi))))
theorem sl_tupA : SlR X (rSlA X.K) := by
  intro pins s σ H x v vl vu lo hi sl Q I rx hs pl pu h
  obtain ⟨a, xs, rfl, hx, q1, q2⟩ := h
  by_cases c : HT.sIx xs.length 0 lo = 0 ∧ HT.sIx xs.length xs.length hi = xs.length
  · cases rx
    obtain ⟨its, r, ht, hz⟩ := I.tuple hx
    have hlen : its.toArray.size = xs.length := by rw [List.size_toArray]; exact r.length.symm
    refine ⟨"tuple", _, PyProof.Rows.slot_tuple_getitem.lookup, ht.typeIs, ?_⟩
    exact HT.getItem_tuple_all ht hs pl pu (by rw [hlen]; exact c) ⟨.ref a, H, I, rfl, q1 c⟩
  · exact sl_tup pins s σ H _ v vl vu lo hi sl Q I rx hs pl pu ⟨a, xs, rfl, hx, c, q2 c⟩
def tRev (K : PySem.W.Frag) (te : TE) : TE := fun σ H Q => te σ H fun x H1 => ∃ a xs, x = .ref a ∧ SqT K H1 a xs ∧ ∀ p, H1 p = none → Q (.ref p) (upd H1 p (.tup xs.reverse))
theorem vals_reverse {xs : List V} {us : List Value} (h : Vals xs us) : Vals xs.reverse us.reverse := by
  induction h with
  | nil => exact .nil
  | cons r _ ih => rw [List.reverse_cons, List.reverse_cons]; exact ih.append (.cons r .nil)
theorem pe_rev {m : Expr} {ops : Value → Value → List Value} (he : PE X e te) (hm : PE X m (tC (.int (-1)))) (hsub : ∀ a d, subscripted (.Slice none none (some m) p2) false a d = operate (ops a d) (getItem a d)) : PE X (.Subscript e (.Slice none none (some m) p2) pos) (tRev X.K te) := by
  intro pins s σ H Q I h
  refine Subscript_ (thn (he pins s σ H _ I h) fun v s1 ⟨x, H1, I1, r1, q1⟩ => ?_)
  obtain ⟨a, xs, rfl, hx, q⟩ := q1
  refine wpAny_Slice ?_
  rw [evalPart_none]
  refine wpAny_pure (wpAny_pure ?_)
  rw [evalPart_some]
  refine thn (hm pins s1 σ H1 (fun y H2 => y = .int (-1) ∧ H2 = H1) I1 ⟨rfl, rfl⟩) fun vk s3 ⟨y, H3, I3, rk, ey, eH⟩ => ?_
  subst ey eH
  obtain ⟨t, rfl⟩ := rk
  cases r1
  have I4 : Inv X pins σ H3 { s3 with heap := s3.heap.push { cls := .type "slice", data := .fields #[.none, .none, .int (-1) t] } } := I3.kept (t' := s3.toks) fun b ob q => Heap.get?_push_of_some _ q
  obtain ⟨its, r, ht, hz⟩ := I4.tuple hx
  have hlen : its.toArray.size = xs.length := by rw [List.size_toArray]; exact r.length.symm
  show wpAny (model X.prog X.w) X.A (subscriptTail e (.Slice none none (some m) p2) (.ref a) (.ref s3.heap.objs.size)) (EP X pins σ Q) X.xe { s3 with heap := s3.heap.push { cls := .type "slice", data := .fields #[.none, .none, .int (-1) t] } }
  refine tail_any (ops := ops (.ref a) (.ref s3.heap.objs.size)) ht.typeIs PyProof.Rows.slot_tuple_getitem.lookup (HT.getItem_tuple_rev ht (Heap.get?_push_size _ rfl) rfl rfl (.int (-1) t) ?_ (by rw [hlen]; exact hz)) (hsub _ _)
  refine ⟨.ref _, _, I4.laid (t' := s3.toks) (o := .tup xs.reverse) (fun b ob q => Heap.get?_push_of_some _ q) (Nat.le_refl _) ?_, rfl, q _ (I4.hok.fresh (Nat.le_refl _))⟩
  exact ⟨⟨by rw [List.length_reverse]; exact hz, _, Heap.get?_push_size _ rfl, rfl⟩, _, vals_reverse r, IsTup.new _ _⟩
end
end L2
/-! ### the table of a set: places rise -/
namespace STb
open PySem
def Ris (xs : Array Nat) : Prop := xs.toList.Pairwise (· < ·)
theorem Ris.lt {xs : Array Nat} (h : Ris xs) {i j : Nat} {a b : Nat} (hij : i < j) (hi : xs[i]? = some a) (hj : xs[j]? = some b) : a < b := by
  obtain ⟨h1, e1⟩ := Array.getElem?_eq_some_iff.mp hi
  obtain ⟨h2, e2⟩ := Array.getElem?_eq_some_iff.mp hj
  have := List.pairwise_iff_getElem.mp h i j (by simpa using h1) (by simpa using h2) hij
  simpa [e1, e2] using this
theorem go_spec {xs : Array Nat} (h : Ris xs) (j : Nat) : ∀ (fuel lo hi : Nat), hi - lo ≤ fuel → lo ≤ hi → hi ≤ xs.size → (∀ k v, k < lo → xs[k]? = some v → v < j) → (∀ k v, hi ≤ k → xs[k]? = some v → j ≤ v) →
    lo ≤ SetTable.below.go xs j fuel lo hi ∧ SetTable.below.go xs j fuel lo hi ≤ hi ∧ (∀ k v, k < SetTable.below.go xs j fuel lo hi → xs[k]? = some v → v < j) ∧ (∀ k v, SetTable.below.go xs j fuel lo hi ≤ k → xs[k]? = some v → j ≤ v) := by
  intro fuel
  induction fuel with
  | zero =>
    intro lo hi hf hl hs h1 h2
    have : lo = hi := by omega
    subst this
    exact ⟨Nat.le_refl _, Nat.le_refl _, h1, h2⟩
  | succ fuel ih =>
    intro lo hi hf hl hs h1 h2
    unfold SetTable.below.go
    by_cases c : lo < hi
    · rw [if_pos c]
      have hm : (lo + hi) / 2 < xs.size := by omega
      have em : xs[(lo + hi) / 2]? = some xs[(lo + hi) / 2] := Array.getElem?_eq_getElem hm
      have eg : xs.getD ((lo + hi) / 2) j = xs[(lo + hi) / 2] := by simp [Array.getD, hm]
      dsimp only
      rw [eg]
      by_cases d : xs[(lo + hi) / 2] < j
      · rw [if_pos d]
        obtain ⟨a, b, c1, c2⟩ := ih ((lo + hi) / 2 + 1) hi (by omega) (by omega) hs (fun k v hk e => by
          by_cases z : k = (lo + hi) / 2
          · subst z; rw [em] at e; cases e; exact d
          · have := h.lt (i := k) (j := (lo + hi) / 2) (by omega) e em; omega) h2
        exact ⟨by omega, b, c1, c2⟩
      · rw [if_neg d]
        obtain ⟨a, b, c1, c2⟩ := ih lo ((lo + hi) / 2) (by omega) (by omega) (by omega) h1 (fun k v hk e => by
          by_cases z : k = (lo + hi) / 2
          · subst z; rw [em] at e; cases e; omega
          · have := h.lt (i := (lo + hi) / 2) (j := k) (by omega) em e; omega)
        exact ⟨a, by omega, c1, c2⟩
    · rw [if_neg c]
      have : lo = hi := by omega
      subst this
      exact ⟨Nat.le_refl _, Nat.le_refl _, h1, h2⟩
theorem below_spec {xs : Array Nat} (h : Ris xs) (j : Nat) : SetTable.below xs j ≤ xs.size ∧ (∀ k v, k < SetTable.below xs j → xs[k]? = some v → v < j) ∧ (∀ k v, SetTable.below xs j ≤ k → xs[k]? = some v → j ≤ v) := by
  obtain ⟨_, a, b, c⟩ := go_spec h j xs.size 0 xs.size (by omega) (by omega) (Nat.le_refl _) (fun k v hk _ => absurd hk (Nat.not_lt_zero _)) (fun k v hk e => by
    have := (Array.getElem?_eq_some_iff.mp e).1; omega)
  exact ⟨a, b, c⟩
/-- the index of the next place above what was given -/
theorem below_next {xs : Array Nat} (h : Ris xs) {i a : Nat} (e : xs[i]? = some a) : SetTable.below xs (a + 1) = i + 1 := by
  obtain ⟨h1, h2, h3⟩ := below_spec h (a + 1)
  have hi := (Array.getElem?_eq_some_iff.mp e).1
  rcases Nat.lt_trichotomy (SetTable.below xs (a + 1)) (i + 1) with c | c | c
  · have := h3 i a (by omega) e; omega
  · exact c
  · have hl : i + 1 < xs.size := by omega
    have e2 : xs[i + 1]? = some xs[i + 1] := Array.getElem?_eq_getElem hl
    have a1 := h2 (i + 1) _ c e2
    have a2 := h.lt (i := i) (j := i + 1) (by omega) e e2
    omega
theorem below_zero {xs : Array Nat} (h : Ris xs) : SetTable.below xs 0 = 0 := by
  obtain ⟨h1, h2, h3⟩ := below_spec h 0
  rcases Nat.eq_zero_or_pos (SetTable.below xs 0) with c | c
  · exact c
  · have hl : 0 < xs.size := by omega
    have := h2 0 _ c (Array.getElem?_eq_getElem hl)
    omega
theorem insert_ris {xs : Array Nat} (h : Ris xs) {j : Nat} (ne : xs[SetTable.below xs j]? ≠ some j) : Ris (SetTable.insertAt xs (SetTable.below xs j) j) := by
  obtain ⟨h1, h2, h3⟩ := below_spec h j
  unfold Ris
  rw [SetTable.toList_insertAt]
  have hp : (xs.toList.take (SetTable.below xs j) ++ xs.toList.drop (SetTable.below xs j)).Pairwise (· < ·) := by rw [List.take_append_drop]; exact h
  obtain ⟨p1, p2, p3⟩ := List.pairwise_append.mp hp
  have lo : ∀ a ∈ xs.toList.take (SetTable.below xs j), a < j := fun a ha => by
    obtain ⟨k, hk, e⟩ := List.getElem_of_mem ha
    rw [List.length_take] at hk
    rw [List.getElem_take] at e
    exact h2 k a (by omega) (by rw [← Array.getElem?_toList, List.getElem?_eq_getElem (by omega), e])
  have hi : ∀ a ∈ xs.toList.drop (SetTable.below xs j), j < a := fun a ha => by
    obtain ⟨k, hk, e⟩ := List.getElem_of_mem ha
    rw [List.length_drop] at hk
    rw [List.getElem_drop] at e
    have eg : xs[SetTable.below xs j + k]? = some a := by rw [← Array.getElem?_toList, List.getElem?_eq_getElem (by omega), e]
    have := h3 _ a (by omega) eg
    by_cases c : k = 0
    · subst c
      rw [Nat.add_zero] at eg
      have : a ≠ j := fun z => ne (by rw [eg, z])
      omega
    · have hz : SetTable.below xs j < xs.size := by simp at hk; omega
      have e0 : xs[SetTable.below xs j]? = some xs[SetTable.below xs j] := Array.getElem?_eq_getElem hz
      have a0 := h3 _ _ (Nat.le_refl _) e0
      have a1 := h.lt (i := SetTable.below xs j) (j := SetTable.below xs j + k) (by omega) e0 eg
      omega
  refine List.pairwise_append.mpr ⟨p1, List.pairwise_cons.mpr ⟨hi, p2⟩, fun a ha b hb => ?_⟩
  rcases List.mem_cons.mp hb with rfl | hb
  · exact lo a ha
  · exact p3 a ha b hb
/-- what is known of a set's table -/
structure GT (led : Bool) (t : SetTable) : Prop where
  dm : t.dummies = #[]
  ld : t.led = led
  rs : t.plain = true → Ris t.place
theorem gt_fresh (led : Bool) : GT led (SetTable.fresh 0 0 led) := ⟨rfl, rfl, fun _ => List.Pairwise.nil⟩
theorem has_nil (j : Nat) : SetTable.has #[] j = false := by
  unfold SetTable.has
  simp
theorem slot_empty {t : SetTable} (hd : t.dummies = #[]) {j : Nat} : (t.slot j = .empty → t.place[SetTable.below t.place j]? ≠ some j) ∧ t.slot j ≠ .dummy := by
  unfold SetTable.slot
  rw [hd, has_nil]
  dsimp only
  constructor
  · intro h e
    rw [e] at h
    simp at h
  · split <;> simp
theorem probe_empty {t : SetTable} (hd : t.dummies = #[]) {ha : Nat → Int} {hh : Int} {j : Nat} {d : Option Nat} : ∀ (fuel : Nat) (p : SetTable.Probe), p.dummy = none → SetTable.probe.go t ha hh fuel p = some (.empty j d) → t.slot j = .empty ∧ d = none := by
  intro fuel
  induction fuel with
  | zero => intro p _ h; unfold SetTable.probe.go at h; cases h
  | succ fuel ih =>
    intro p hp h
    unfold SetTable.probe.go at h
    cases e : t.slot p.j with
    | empty =>
      rw [e] at h
      simp only [Option.some.injEq, SetTable.Met.empty.injEq] at h
      exact ⟨by rw [← h.1]; exact e, by rw [← h.2]; exact hp⟩
    | dummy => exact absurd e (slot_empty hd).2
    | live i =>
      rw [e] at h
      dsimp only at h
      split at h
      · cases h
      · refine ih _ ?_ h
        unfold SetTable.advance
        split
        · exact hp
        · exact hp
theorem free_empty {t : SetTable} (hd : t.dummies = #[]) {hh : Int} {j : Nat} {w : Bool} (h : t.freeSlot hh = some (j, w)) : t.place[SetTable.below t.place j]? ≠ some j := by
  unfold SetTable.freeSlot at h
  cases e : t.probe (fun _ => hh + 1) hh (t.probeStart hh) with
  | none => rw [e] at h; cases h
  | some met =>
    rw [e] at h
    cases met with
    | candidate a b c => cases h
    | empty j' d =>
      obtain ⟨e1, e2⟩ := probe_empty hd _ _ rfl e
      subst e2
      simp only [Option.getD_none, Option.some.injEq, Prod.mk.injEq] at h
      rw [← h.1]
      exact (slot_empty hd).1 e1
theorem gt_put {led : Bool} {t : SetTable} (g : GT led t) {j : Nat} (h : t.place[SetTable.below t.place j]? ≠ some j) : GT led (t.put j).1 := by
  unfold SetTable.put
  refine ⟨?_, g.ld, fun hp => insert_ris (g.rs hp) h⟩
  dsimp only
  rw [g.dm, has_nil]
  rfl
theorem gt_stand {led : Bool} {t : SetTable} (g : GT led t) (n : Nat) : GT led (t.standIn n) := ⟨rfl, g.ld, fun h => by cases h⟩
theorem gt_or {led : Bool} {t : SetTable} (g : GT led t) (n : Nat) : GT led (t.orStandIn n) := by
  unfold SetTable.orStandIn
  split
  · exact g
  · exact gt_stand g n
theorem gt_lay {led : Bool} {t : SetTable} (g : GT led t) (es : Array (Int × Value)) (h : Int) (x : Value) : GT led (layNew t es h x).2.1 := by
  unfold layNew
  cases e : t.freeSlot h with
  | none => exact gt_stand g _
  | some q =>
    obtain ⟨j, w⟩ := q
    exact gt_or (gt_put g (free_empty g.dm e)) _
theorem ris_filter {f : Nat → Option Nat} : ∀ (l : List Nat), l.Pairwise (· < ·) → ((l.filterMap fun j => (f j).map (j, ·)).map (·.1)).Pairwise (· < ·) := by
  intro l h
  rw [List.pairwise_map, List.pairwise_filterMap]
  refine h.imp fun {a b} hab x hx y hy => ?_
  cases ea : f a with
  | none => rw [ea] at hx; cases hx
  | some u =>
    cases eb : f b with
    | none => rw [eb] at hy; cases hy
    | some v =>
      rw [ea] at hx
      rw [eb] at hy
      cases hx
      cases hy
      exact hab
theorem gt_relay {led : Bool} {t : SetTable} (g : GT led t) (es : Array (Int × Value)) (n : Nat) : GT led (relayAll t es n).2.1 := by
  unfold relayAll
  cases e : t.relaid (es.map (·.1)) n with
  | none => exact gt_stand g _
  | some q =>
    obtain ⟨t', order⟩ := q
    dsimp only
    split
    · unfold SetTable.relaid SetTable.laid at e
      simp only [Option.bind_eq_bind, Option.bind_eq_some_iff, Option.pure_def, Option.some.injEq, Prod.mk.injEq] at e
      obtain ⟨owner, _, e1, _⟩ := e
      rw [← e1]
      refine ⟨rfl, g.ld, fun _ => ?_⟩
      show List.Pairwise _ (List.map _ _).toArray.toList
      exact ris_filter _ List.pairwise_lt_range
    · exact gt_stand g _
end STb
/-! ### adding to a set of ints, its table kept in sight -/
namespace STb
open PySem PySem.Spec PyProof.Rows L2
section
variable {prog : Program} {w : World} {A : Around} {E : Value → Shared → Prop} {s : Shared}
/-- what a set of ints bears -/
structure Brs (prog : Program) (w : World) (led : Bool) (S : Int → Bool) (n : Nat) (el : Array (Int × Value)) (tb : SetTable) : Prop where
  elm : ElemsOf (intKind prog w) el.toList
  mem : ∀ k, S k = true ↔ ∃ e ∈ el.toList, (intKind prog w).is k e.2 = true
  few : el.size < scanBound
  fit : tb.fits el.size = true
  siz : el.size = n
  gt : GT led tb
def SetG (prog : Program) (w : World) (led : Bool) (h : Heap) (a : Addr) (S : Int → Bool) (n : Nat) : Prop :=
  ∃ ob el ep tb, h.get? a = some ob ∧ ob.ExactSet ∧ ob.data = .set el ep tb ∧ Brs prog w led S n el tb
theorem SetG.keep {led : Bool} {h h' : Heap} {a : Addr} {S : Int → Bool} {n : Nat} (x : SetG prog w led h a S n) (k : ∀ o, h.get? a = some o → h'.get? a = some o) : SetG prog w led h' a S n :=
  let ⟨ob, el, ep, tb, g1, g2, g3, g4⟩ := x; ⟨ob, el, ep, tb, k _ g1, g2, g3, g4⟩
theorem SetG.congr {led : Bool} {h : Heap} {a : Addr} {S S' : Int → Bool} {n n' : Nat} (x : SetG prog w led h a S n) (e : ∀ k, S' k = S k) (en : n' = n) : SetG prog w led h a S' n' := by
  obtain ⟨ob, el, ep, tb, g1, g2, g3, g4⟩ := x
  subst en
  exact ⟨ob, el, ep, tb, g1, g2, g3, ⟨g4.elm, fun k => by rw [e k]; exact g4.mem k, g4.few, g4.fit, g4.siz, g4.gt⟩⟩
theorem put_at {h : Heap} {a : Addr} {ob : Obj} {el : Array (Int × Value)} {ep : Nat} {tb : SetTable} (g1 : h.get? a = some ob) (g3 : ob.data = .set el ep tb) (el' : Array (Int × Value)) (tb' : SetTable) :
    (h.update a (Obj.putSet el' tb')).get? a = some { ob with data := .set el' (ep + 1) tb' } := by
  have q := Heap.get?_update_self (Obj.putSet el' tb') g1 (by rw [putSet_of el' tb' g3]; rfl)
  rwa [putSet_of el' tb' g3] at q
/-- the store, and the table laid anew where it is too full -/
theorem tail_g {led : Bool} {a : Addr} {ob : Obj} {el el1 : Array (Int × Value)} {ep : Nat} {tb tb1 : SetTable} {S : Int → Bool} {n : Nat} {wd : Bool} {R : Option Bool → Shared → Prop} {note : Bool → Sem Unit}
    (hn : ∀ (b : Bool) (s₁ : Shared) (Q' : Unit → Shared → Prop), Q' () s₁ → wpAny (model prog w) A (note b) Q' E s₁)
    (g1 : s.heap.get? a = some ob) (g2 : ob.ExactSet) (g3 : ob.data = .set el ep tb) (B : Brs prog w led S n el1 tb1)
    (q : ∀ h', Heap.SameBut a s.heap h' → SetG prog w led h' a S n → R (some true) { s with heap := h' }) :
    wpAny (model prog w) A (storeSet a el1 tb1 >>= fun _ => if (!wd && tb1.tooFull) = true then (note (relayAll tb1 el1 (SetTable.grown el1.size)).2.2 >>= fun _ => storeSet a (relayAll tb1 el1 (SetTable.grown el1.size)).1 (relayAll tb1 el1 (SetTable.grown el1.size)).2.1 >>= fun _ => pure (some true)) else pure (some true)) R E s := by
  refine wpAny_bind (wpAny_storeSet_of g1 g3 ?_ (fits_of_scanBound B.few))
  have p1 := put_at g1 g3 el1 tb1
  have b1 := Heap.SameBut.update s.heap a (Obj.putSet el1 tb1)
  by_cases c : (!wd && tb1.tooFull) = true
  · rw [if_pos c]
    have pm := relayAll_perm tb1 el1 (SetTable.grown el1.size)
    have pf := relayAll_fits tb1 el1 (SetTable.grown el1.size)
    have pg := gt_relay B.gt el1 (SetTable.grown el1.size)
    generalize relayAll tb1 el1 (SetTable.grown el1.size) = ra at pm pf pg ⊢
    obtain ⟨el2, tb2, gv⟩ := ra
    dsimp only at pm pf pg ⊢
    have z : el2.size = el1.size := by rw [← Array.length_toList, pm.length_eq, Array.length_toList]
    refine wpAny_bind (hn _ _ _ (wpAny_bind (wpAny_storeSet_of p1 rfl ?_ (fits_of_scanBound (by rw [z]; exact B.few)))))
    refine wpAny_pure (q _ (b1.trans (Heap.SameBut.update _ a _)) ⟨_, el2, _, tb2, put_at p1 rfl el2 tb2, g2, rfl, ⟨B.elm.perm pm, fun k => (B.mem k).trans ?_, by rw [z]; exact B.few, pf, by rw [z]; exact B.siz, pg⟩⟩)
    exact ⟨fun ⟨e, he, u⟩ => ⟨e, pm.mem_iff.mpr he, u⟩, fun ⟨e, he, u⟩ => ⟨e, pm.mem_iff.mp he, u⟩⟩
  · rw [if_neg c]
    exact wpAny_pure (q _ b1 ⟨_, el1, _, tb1, p1, g2, rfl, B⟩)
theorem add_g {led : Bool} {a : Addr} {S : Int → Bool} {n : Nat} {k : Int} {tk : Tok} {Q : Bool → Shared → Prop} (G : SetG prog w led s.heap a S n) (room : n + 1 < scanBound)
    (q : ∀ h', Heap.SameBut a s.heap h' → SetG prog w led h' a (fun j => S j || decide (j = k)) (if S k then n else n + 1) → Q (!S k) { s with heap := h' }) :
    wpAny (model prog w) A (setAddHashed a (.int k tk) ((intKind prog w).hash k)) Q E s := by
  have kk : (intKind prog w).is k (.int k tk) = true := intKind_is _ _ _ _
  obtain ⟨ob, el, ep, tb, g1, g2, g3, B⟩ := G
  unfold setAddHashed setAddHashedIn
  refine wpAny_holding (wpAny_bind (wpAny_setState_of g1 g3 B.fit ?_))
  dsimp only
  rw [byScan_of (knd := intKind prog w) (x := .int k tk) rfl B.few B.elm]
  rw [if_pos rfl]
  unfold setAddByScan
  refine wpAny_bind (wpAny_bind (wpAny_rule (wpAny_bind (wpAny_setScan_of kk g1 g3 B.fit B.elm ?_))))
  cases fi : el.toList.findIdx? (fun e => (intKind prog w).is k e.2) with
  | some j =>
    obtain ⟨hj, hp, _⟩ := List.findIdx?_eq_some_iff_getElem.mp fi
    have yes : S k = true := (B.mem k).mpr ⟨_, List.getElem_mem hj, hp⟩
    refine wpAny_pure (wpAny_pure ?_)
    have r := q s.heap (Heap.SameBut.refl a s.heap) ⟨ob, el, ep, tb, g1, g2, g3, ⟨B.elm, fun i => ?_, B.few, B.fit, by rw [yes]; exact B.siz, B.gt⟩⟩
    · rw [yes] at r
      exact r
    · rw [Bool.or_eq_true, decide_eq_true_eq, ← B.mem i]
      exact ⟨fun z => z.elim id fun e => by rw [e]; exact yes, .inl⟩
  | none =>
    have no : S k = false := by
      cases hk : S k with
      | false => rfl
      | true =>
        obtain ⟨e, he, hp⟩ := (B.mem k).mp hk
        have := List.findIdx?_eq_none_iff.mp fi e he
        rw [hp] at this
        cases this
    dsimp only
    have pm := layNew_perm tb el ((intKind prog w).hash k) (.int k tk)
    have pf := layNew_fits tb el ((intKind prog w).hash k) (.int k tk)
    have pg := gt_lay B.gt el ((intKind prog w).hash k) (.int k tk)
    generalize layNew tb el ((intKind prog w).hash k) (.int k tk) = la at pm pf pg ⊢
    obtain ⟨el1, tb1, wd, gv⟩ := la
    dsimp only at pm pf pg ⊢
    rw [Array.toList_push] at pm
    have z : el1.size = n + 1 := by
      rw [← Array.length_toList, pm.length_eq, List.length_append, Array.length_toList, B.siz]
      rfl
    have B1 : Brs prog w led (fun j => S j || decide (j = k)) (n + 1) el1 tb1 := ⟨(B.elm.push kk rfl).perm pm, mem_push_iff kk B.mem pm, by rw [z]; exact room, pf, z, pg⟩
    have fin : ∀ h', Heap.SameBut a s.heap h' → SetG prog w led h' a (fun j => S j || decide (j = k)) (n + 1) → Q true { s with heap := h' } := fun h' hs hG => by
      have r := q h' hs
      rw [no] at r
      exact r hG
    have nt : ∀ (b : Bool) (s₁ : Shared) (Q' : Unit → Shared → Prop), Q' () s₁ → wpAny (model prog w) A (match b with | true => rule "set.scan.the-table-gave-way" | false => pure ()) Q' E s₁ := fun b s₁ Q' u => by
      cases b
      · exact wpAny_pure u
      · exact wpAny_rule u
    refine wpAny_bind (nt gv _ _ ?_)
    by_cases c : tb1.plain = true
    · rw [if_pos c]
      refine wpAny_bind (wpAny_of_eq (m' := pure true) rfl (wpAny_pure ?_))
      rw [if_pos rfl]
      exact tail_g nt g1 g2 g3 B1 fun h' hs hG => wpAny_pure (fin h' hs hG)
    · rw [if_neg c]
      refine wpAny_bind (wpAny_pure ?_)
      rw [if_pos rfl]
      exact tail_g nt g1 g2 g3 B1 fun h' hs hG => wpAny_pure (fin h' hs hG)
end
end STb
/-! ### going through a set of ints -/
namespace STb
open PySem PySem.Spec PyProof.Rows L2
theorem si_next : Slot "set_iterator" "__next__" "set_iterator.__next__" := .of (owner := "set_iterator") (n := "__next__") (by rw [typeLookup_type, builtinLookup_eq_fast]; kernel_rfl) (by decide +kernel) (by decide +kernel) (by decide +kernel) (by first | exact .inl (by decide +kernel) | exact .inr (by decide +kernel)) (by rw [isSubtype_type]; kernel_rfl)
theorem si_iter : Slot "set_iterator" "__iter__" "set_iterator.__iter__" := .of (owner := "set_iterator") (n := "__iter__") (by rw [typeLookup_type, builtinLookup_eq_fast]; kernel_rfl) (by decide +kernel) (by decide +kernel) (by decide +kernel) (by first | exact .inl (by decide +kernel) | exact .inr (by decide +kernel)) (by rw [isSubtype_type]; kernel_rfl)
theorem si_entry_next : entryFor table "set_iterator.__next__" = some Builtin.«set_iterator.__next__» := entryFor_of_tree (by kernel_rfl)
theorem si_entry_iter : entryFor table "set_iterator.__iter__" = some Builtin.«dict_keyiterator.__iter__» := entryFor_alias (id' := "dict_keyiterator.__iter__") (by kernel_rfl) (by first | rfl | decide +kernel) (by decide +kernel) (by kernel_rfl)
theorem set_entry_iter : entryFor table "set.__iter__" = some Builtin.«frozenset.__iter__» := entryFor_alias (id' := "frozenset.__iter__") (by kernel_rfl) (by first | rfl | decide +kernel) (by decide +kernel) (by kernel_rfl)
theorem si_owner : Manifest.owners.lookup (String.ofList ['r', 'o', 't', 'a', 'r', 'e', 't', 'i', '_', 't', 'e', 's'].reverse) = some Manifest.sig_set_iterator := by kernel_rfl
theorem si_args_next (a : Value) : argsOk "set_iterator.__next__" ⟨[a], []⟩ := by
  unfold argsOk
  rw [signature?_of (id := "set_iterator.__next__") (n := ['_', '_', 't', 'x', 'e', 'n', '_', '_']) (o := ['r', 'o', 't', 'a', 'r', 'e', 't', 'i', '_', 't', 'e', 's']) (by kernel_rfl) si_owner]
  kernel_rfl
theorem si_args_iter (a : Value) : argsOk "set_iterator.__iter__" ⟨[a], []⟩ := by
  unfold argsOk
  rw [signature?_of (id := "set_iterator.__iter__") (n := ['_', '_', 'r', 'e', 't', 'i', '_', '_']) (o := ['r', 'o', 't', 'a', 'r', 'e', 't', 'i', '_', 't', 'e', 's']) (by kernel_rfl) si_owner]
  kernel_rfl
theorem er_perm {α : Type} : ∀ {l : List α} {k : Nat} {x : α}, l[k]? = some x → (x :: l.eraseIdx k).Perm l
  | [], _, _, h => by simp at h
  | _ :: _, 0, _, h => by simp at h; subst h; exact List.Perm.refl _
  | y :: r, k + 1, x, h => by
    show (x :: y :: r.eraseIdx k).Perm (y :: r)
    exact (List.Perm.swap y x _).trans ((er_perm (by simpa using h)).cons y)
theorem pick_go {α : Type} (next : Nat → Nat) : ∀ (fuel k : Nat) (left : List α) (out : Array α), left.length = fuel → (pickOrder.go next fuel k left out).toList.Perm (out.toList ++ left)
  | 0, k, left, out, h => by
    have : left = [] := List.length_eq_zero_iff.mp h
    subst this
    unfold pickOrder.go
    rw [List.append_nil]
  | fuel + 1, k, left, out, h => by
    unfold pickOrder.go
    have hl : next k % left.length < left.length := Nat.mod_lt _ (by omega)
    have e : left[next k % left.length]? = some left[next k % left.length] := List.getElem?_eq_getElem hl
    rw [e]
    dsimp only
    refine (pick_go next fuel (k + 1) _ _ (by rw [List.length_eraseIdx, if_pos hl]; omega)).trans ?_
    rw [Array.toList_push, List.append_assoc]
    exact (er_perm e).append_left _
theorem pick_perm {α : Type} (next : Nat → Nat) (xs : Array α) : (pickOrder next xs).toList.Perm xs.toList := by
  have := pick_go next xs.size 0 xs.toList #[] (by simp)
  simpa [pickOrder] using this
section
variable {prog : Program} {w : World} {A : Around} {E : Value → Shared → Prop}
theorem ch_wp {src : Source} {n : Nat} {s : Shared} {Q : Nat → Shared → Prop} (hn : n ≠ 0) (h : ∀ i d', i < n → Q i { s with drawn := d' }) : wpAny (model prog w) A (choose src n) Q E s :=
  fun _ _ _ => ⟨hn, h _ _ (Nat.mod_lt _ (Nat.pos_of_ne_zero hn))⟩
theorem draw_wp {α : Type} : ∀ (k : Nat) (xs : List α) (s : Shared) (Q : List α → Shared → Prop), xs.length = k → (∀ ys d', ys.Perm xs → Q ys { s with drawn := d' }) → wpAny (model prog w) A (drawOrder k xs) Q E s
  | 0, xs, s, Q, h, q => by
    have : xs = [] := List.length_eq_zero_iff.mp h
    subst this
    unfold drawOrder
    exact wpAny_pure (q [] s.drawn (List.Perm.refl _))
  | k + 1, [], s, Q, h, q => by cases h
  | k + 1, x :: r, s, Q, h, q => by
    unfold drawOrder
    refine wpAny_bind (ch_wp (by simp) fun i d' hi => ?_)
    have e : (x :: r)[i]? = some (x :: r)[i] := List.getElem?_eq_getElem hi
    rw [e]
    dsimp only
    refine wpAny_bind (draw_wp k _ _ _ (by rw [List.length_eraseIdx, if_pos hi]; omega) fun ys d2 hp => wpAny_pure ?_)
    exact q _ d2 ((hp.cons _).trans (er_perm e))
end
/-- a set as it lies -/
def RawS (h : Heap) (a : Addr) (el : Array (Int × Value)) (ep : Nat) (tb : SetTable) : Prop := ∃ ob, h.get? a = some ob ∧ ob.ExactSet ∧ ob.data = .set el ep tb
theorem RawS.keep {h h' : Heap} {a : Addr} {el : Array (Int × Value)} {ep : Nat} {tb : SetTable} (x : RawS h a el ep tb) (k : ∀ o, h.get? a = some o → h'.get? a = some o) : RawS h' a el ep tb := let ⟨ob, g, r⟩ := x; ⟨ob, k _ g, r⟩
theorem RawS.typeIs {s : Shared} {a : Addr} {el : Array (Int × Value)} {ep : Nat} {tb : SetTable} (x : RawS s.heap a el ep tb) : s.TypeIs (.ref a) "set" := let ⟨ob, g, c, _⟩ := x; ⟨ob, g, c.1⟩
theorem RawS.lt {h : Heap} {a : Addr} {el : Array (Int × Value)} {ep : Nat} {tb : SetTable} (x : RawS h a el ep tb) : a < h.objs.size := let ⟨_, g, _⟩ := x; Heap.lt_size g
/-- its iterator -/
def SI (h : Heap) (I : Addr) (f : Value) (i n ep : Nat) (a : Addr) : Prop := ∃ o, h.get? I = some o ∧ o.cls = .type "set_iterator" ∧ o.data = .fields #[f, .int i 0, .ref a, .int n 0, .int ep 0]
theorem SI.typeIs {s : Shared} {I : Addr} {f : Value} {i n ep : Nat} {a : Addr} (x : SI s.heap I f i n ep a) : s.TypeIs (.ref I) "set_iterator" := let ⟨o, h, c, _⟩ := x; ⟨o, h, c⟩
theorem SI.keep {h h' : Heap} {I : Addr} {f : Value} {i n ep : Nat} {a : Addr} (x : SI h I f i n ep a) (k : ∀ o, h.get? I = some o → h'.get? I = some o) : SI h' I f i n ep a := let ⟨o, g, r⟩ := x; ⟨o, k _ g, r⟩
section
variable {prog : Program} {w : World} {A : Around} {E : Value → Shared → Prop} {s : Shared} {a I : Addr} {el : Array (Int × Value)} {ep : Nat} {tb : SetTable}
def itObj (f : Value) (n ep : Nat) (a : Addr) : Obj := { cls := .type "set_iterator", data := .fields #[f, .int 0 0, .ref a, .int n 0, .int ep 0] }
theorem iter_wp {Q : Value → Shared → Prop} (hm : RawS s.heap a el ep tb) (hf : tb.fits el.size = true)
    (qa : (w.params.followText "set-order" = true ∨ tb.plain = true ∨ el.size ≤ 1) → Q (.ref s.heap.objs.size) { s with heap := s.heap.push (itObj (.int 0 0) el.size ep a) })
    (qb : ∀ (ys : List Nat) (d' : Drawn), ys.Perm (List.range el.size) → Q (.ref (s.heap.push { cls := .type "tuple", data := .seq (ys.map fun (i : Nat) => rawInt i).toArray }).objs.size) { s with heap := (s.heap.push { cls := .type "tuple", data := .seq (ys.map fun (i : Nat) => rawInt i).toArray }).push (itObj (.ref s.heap.objs.size) el.size ep a), drawn := d' }) (hz : el.size ≤ 100000) :
    wpAny (model prog w) A (pyIter (.ref a)) Q E s := by
  obtain ⟨ob, g1, g2, g3⟩ := id hm
  refine wpAny_pyIter_slot hm.typeIs F.slot_set_iter (wpAny_call_entry F.slot_set_iter hm.typeIs set_entry_iter ?_ (F.args_set_iter_1 _))
  unfold Builtin.«frozenset.__iter__»
  refine wpAny_bind ?_
  refine wpAny_bind (wpAny_pure (wpAny_pure ?_))
  refine wpAny_bind ?_
  unfold Builtin.Frozenset.sizeOf
  refine wpAny_bind (wpAny_setEntries_of g1 g3 hf (wpAny_pure ?_))
  unfold setDrawn setsByText
  refine wpAny_bind (wpAny_bind (wpAny_setState_of g1 g3 hf (wpAny_bind (wpAny_bind (wpAny_askSetting (wpAny_pure (wpAny_pure ?_)))))))
  show wpAny _ _ (if (!w.params.followText "set-order" && (!tb.plain && decide (el.size > 1))) = true then _ else _) _ _ s
  by_cases c : (!w.params.followText "set-order" && (!tb.plain && decide (el.size > 1))) = true
  · rw [if_pos c]
    refine wpAny_bind (draw_wp _ _ _ _ (by rw [List.length_range]) fun ys d' hp => wpAny_bind ?_)
    unfold newTuple
    refine wpAny_newObj_type ?_ ?_
    · unfold setEpoch
      refine wpAny_bind (wpAny_bind (wpAny_setState_of (Heap.get?_push_of_some _ g1) g3 hf (wpAny_pure ?_)))
      refine wpAny_bind (wpAny_newObj_type (wpAny_pure ⟨_, rfl, "set_iterator", _, ⟨_, Heap.get?_push_size _ rfl, rfl⟩, si_next.lookup, ?_⟩))
      exact qb ys d' hp
    · show (List.toArray _).size ≤ sizeLine
      rw [List.size_toArray, List.length_map, hp.length_eq, List.length_range]
      have : sizeLine = 16777216 := rfl
      omega
  · rw [if_neg c]
    refine wpAny_bind (wpAny_pure ?_)
    unfold setEpoch
    refine wpAny_bind (wpAny_bind (wpAny_setState_of g1 g3 hf (wpAny_pure ?_)))
    refine wpAny_bind (wpAny_newObj_type (wpAny_pure ⟨_, rfl, "set_iterator", _, ⟨_, Heap.get?_push_size _ rfl, rfl⟩, si_next.lookup, ?_⟩))
    refine qa ?_
    by_cases c1 : w.params.followText "set-order" = true
    · exact .inl c1
    · right
      by_cases c2 : tb.plain = true
      · exact .inl c2
      · right
        by_cases c3 : el.size ≤ 1
        · exact c3
        · exact absurd (by simp [c1, c2]; omega) c
theorem sn_text {slot given : Nat} {Q : Option (Value × Nat) → Shared → Prop} (hm : RawS s.heap a el ep tb) (hf : tb.fits el.size = true) (ht : w.params.followText "set-order" = true)
    (q : Q (((pickOrder (w.params.setOrder a ep) el)[given]?).map fun e => (e.2, slot)) s) : wpAny (model prog w) A (setNext a slot given ep) Q E s := by
  obtain ⟨ob, g1, g2, g3⟩ := id hm
  unfold setNext setsByText
  refine wpAny_bind (wpAny_setState_of g1 g3 hf (wpAny_bind (wpAny_bind (wpAny_askSetting (wpAny_pure ?_)))))
  show wpAny _ _ (if w.params.followText "set-order" = true then _ else _) _ _ s
  rw [if_pos ht]
  show wpAny _ _ (if (ep != ep) = true then _ else _) _ _ s
  rw [if_neg (by simp)]
  unfold setWalk setsByText
  refine wpAny_bind (wpAny_bind (wpAny_setState_of g1 g3 hf (wpAny_bind (wpAny_bind (wpAny_askSetting (wpAny_pure ?_))))))
  show wpAny _ _ (if w.params.followText "set-order" = true then _ else _) _ _ s
  rw [if_pos ht]
  refine wpAny_bind (wpAny_askSetting (wpAny_pure (wpAny_pure q)))
theorem sn_plain {slot given i : Nat} {Q : Option (Value × Nat) → Shared → Prop} (hm : RawS s.heap a el ep tb) (hf : tb.fits el.size = true) (ht : w.params.followText "set-order" = false) (hp : tb.plain = true ∨ el.size ≤ 1) (hl : tb.led = true) (hi : SetTable.below tb.place slot = i)
    (q : Q (match el[i]?, tb.place[i]? with | some (_, x), some j => some (x, j + 1) | _, _ => none) s) : wpAny (model prog w) A (setNext a slot given ep) Q E s := by
  obtain ⟨ob, g1, g2, g3⟩ := id hm
  unfold setNext setsByText
  refine wpAny_bind (wpAny_setState_of g1 g3 hf (wpAny_bind (wpAny_bind (wpAny_askSetting (wpAny_pure ?_)))))
  show wpAny _ _ (if w.params.followText "set-order" = true then _ else _) _ _ s
  rw [if_neg (by rw [ht]; simp)]
  show wpAny _ _ (if (!tb.plain && decide (el.size > 1)) = true then _ else _) _ _ s
  rw [if_neg (by rcases hp with z | z <;> simp [z])]
  show wpAny _ _ ((if (!tb.led && !el.isEmpty) = true then _ else _) >>= _) _ _ s
  rw [if_neg (by rw [hl]; simp)]
  refine wpAny_bind (wpAny_pure ?_)
  dsimp only
  rw [hi]
  exact wpAny_pure q
/-- what setNext tells -/
def SnTells (prog : Program) (w : World) (a : Addr) (slot i ep : Nat) (r : Option (Value × Nat)) (s : Shared) : Prop := ∀ (A : Around) (E : Value → Shared → Prop) (Q : Option (Value × Nat) → Shared → Prop), Q r s → wpAny (model prog w) A (setNext a slot i ep) Q E s
theorem si_upd {h : Heap} {f f' : Value} {i n : Nat} {o : Obj} (ho : h.get? I = some o) (hc : o.cls = .type "set_iterator") (hd : o.data = .fields #[f, .int i 0, .ref a, .int n 0, .int ep 0]) :
    SI ((h.update I (Obj.mapFields (·.setIfInBounds 0 f'))).update I (Obj.mapFields (·.setIfInBounds 1 (rawInt ((i : Int) + 1))))) I f' (i + 1) n ep a := by
  have e1 : (h.update I (Obj.mapFields (·.setIfInBounds 0 f'))).get? I = some (Obj.mapFields (·.setIfInBounds 0 f') o) := Heap.get?_update_self _ ho (Obj.isFreed_of_fields (Obj.data_mapFields hd _))
  have d1 := Obj.data_mapFields hd (·.setIfInBounds 0 f')
  refine ⟨_, Heap.get?_update_self _ e1 (Obj.isFreed_of_fields (Obj.data_mapFields d1 _)), (Obj.cls_mapFields ..).trans ((Obj.cls_mapFields ..).trans hc), ?_⟩
  rw [Obj.data_mapFields d1]
  simp [rawInt]
theorem si_up1 {h : Heap} {f : Value} {i n : Nat} {o : Obj} (ho : h.get? I = some o) (hc : o.cls = .type "set_iterator") (hd : o.data = .fields #[f, .int i 0, .ref a, .int n 0, .int ep 0]) :
    SI (h.update I (Obj.mapFields (·.setIfInBounds 1 (rawInt ((i : Int) + 1))))) I f (i + 1) n ep a := by
  refine ⟨_, Heap.get?_update_self _ ho (Obj.isFreed_of_fields (Obj.data_mapFields hd _)), (Obj.cls_mapFields ..).trans hc, ?_⟩
  rw [Obj.data_mapFields hd]
  simp [rawInt]
theorem next_a {slot i nx : Nat} {x : Value} {Q : Option Value → Shared → Prop} (hit : SI s.heap I (.int slot 0) i el.size ep a) (hm : RawS s.heap a el ep tb) (hf : tb.fits el.size = true) (hs : SnTells prog w a slot i ep (some (x, nx)) s)
    (hQ : ∀ h', SI h' I (.int nx 0) (i + 1) el.size ep a → Heap.SameBut I s.heap h' → Q (some x) { s with heap := h' }) : wpAny (model prog w) A (pyNext (.ref I)) Q E s := by
  obtain ⟨o, ho, hc, hd⟩ := id hit
  obtain ⟨ob, g1, g2, g3⟩ := id hm
  unfold pyNext
  refine wpAny_bind (wpAny_attempt (wpAny_callSpecial?_slot (name := Str.ofString "__next__") hit.typeIs si_next (wpAny_call_entry si_next hit.typeIs si_entry_next ?_ (si_args_next _))))
  unfold Builtin.«set_iterator.__next__»
  refine wpAny_bind (wpAny_pure ?_)
  refine wpAny_bind (wpAny_fieldsOf ho hd ?_)
  refine wpAny_bind (wpAny_setEntries_of g1 g3 hf ?_)
  rw [if_neg (by simp)]
  dsimp only
  rw [Int.toNat_natCast, Int.toNat_natCast, Int.toNat_natCast]
  refine wpAny_bind (hs _ _ _ ?_)
  dsimp only
  refine wpAny_bind (wpAny_setField ho hd (by simp) ?_)
  have e1 : (s.heap.update I (Obj.mapFields (·.setIfInBounds 0 (rawInt (nx : Int))))).get? I = some (Obj.mapFields (·.setIfInBounds 0 (rawInt (nx : Int))) o) := Heap.get?_update_self _ ho (Obj.isFreed_of_fields (Obj.data_mapFields hd _))
  refine wpAny_bind (wpAny_setField e1 (Obj.data_mapFields hd _) (by simp) ?_)
  refine wpAny_pure ⟨_, rfl, wpAny_pure (hQ _ (si_upd ho hc hd) ((Heap.SameBut.update ..).trans (Heap.SameBut.update ..)))⟩
theorem stop_tail {h0 : Heap} {Q : Option Value → Shared → Prop} (hh : A.handled = none) (hQ : ∀ h', (∀ b o, h0.get? b = some o → h'.get? b = some o) → Q none { s with heap := h' }) {R : Fin → Shared → Prop} :
    wpAny (model prog w) A.in1 (newExc (.type "StopIteration") [] >>= fun e => raiseNew (α := Fin) e) R (fun e s' => wpAny (model prog w) A (isInstance e (.type "StopIteration") >>= fun b => if b = true then pure none else throw e) Q E s') { s with heap := h0 } := by
  refine wpAny_bind ?_
  simp only [newExc, newTuple]
  refine wpAny_bind (wpAny_newObj_type ?_ (by size_fits))
  refine wpAny_bind (m := firstArgMember _ _) (wpAny_of_eq (m' := pure Value.none) (by first | rfl | (simp only [firstArgMember]; rfl)) (wpAny_pure ?_))
  refine wpAny_newObj_type ?_ (by size_fits)
  simp only [raiseNew]
  refine wpAny_bind (wpAny_handled ?_)
  rw [show A.in1.handled = none from hh]
  refine wpAny_bind (wpAny_pure (wpAny_throw ?_))
  refine wpAny_bind (wpAny_isInstance (T := "StopIteration") (b := true) ⟨_, Heap.get?_push_size _ rfl, rfl⟩ isSubtype_stop ?_)
  exact wpAny_pure (hQ _ fun b o e => Heap.get?_push_of_some _ (Heap.get?_push_of_some _ e))
theorem end_a {slot i : Nat} {Q : Option Value → Shared → Prop} (hh : A.handled = none) (hit : SI s.heap I (.int slot 0) i el.size ep a) (hm : RawS s.heap a el ep tb) (hf : tb.fits el.size = true) (hs : SnTells prog w a slot i ep none s)
    (hQ : ∀ h', (∀ b o, b ≠ I → s.heap.get? b = some o → h'.get? b = some o) → Q none { s with heap := h' }) : wpAny (model prog w) A (pyNext (.ref I)) Q E s := by
  obtain ⟨o, ho, hc, hd⟩ := id hit
  obtain ⟨ob, g1, g2, g3⟩ := id hm
  unfold pyNext
  refine wpAny_bind (wpAny_attempt (wpAny_callSpecial?_slot (name := Str.ofString "__next__") hit.typeIs si_next (wpAny_call_entry si_next hit.typeIs si_entry_next ?_ (si_args_next _))))
  unfold Builtin.«set_iterator.__next__»
  refine wpAny_bind (wpAny_pure ?_)
  refine wpAny_bind (wpAny_fieldsOf ho hd ?_)
  refine wpAny_bind (wpAny_setEntries_of g1 g3 hf ?_)
  rw [if_neg (by simp)]
  dsimp only
  rw [Int.toNat_natCast, Int.toNat_natCast, Int.toNat_natCast]
  refine wpAny_bind (hs _ _ _ ?_)
  dsimp only
  refine wpAny_bind (wpAny_setField ho hd (by simp) ?_)
  refine stop_tail hh fun h' k => hQ h' fun b o' nb e => k b o' ((Heap.SameBut.update s.heap I _).extBut b o' nb e)
end
end STb
namespace STb
open PySem PySem.Spec PyProof.Rows L2
section
variable {prog : Program} {w : World} {A : Around} {E : Value → Shared → Prop} {s : Shared} {a I tp : Addr} {el : Array (Int × Value)} {ep : Nat} {tb : SetTable}
def TupOf (h : Heap) (tp : Addr) (ys : List Nat) : Prop := ∃ o n, h.get? tp = some o ∧ o.data = .seq (ys.map fun (i : Nat) => rawInt i).toArray n
theorem TupOf.keep {h h' : Heap} {tp : Addr} {ys : List Nat} (x : TupOf h tp ys) (k : ∀ o, h.get? tp = some o → h'.get? tp = some o) : TupOf h' tp ys := let ⟨o, n, e, d⟩ := x; ⟨o, n, k _ e, d⟩
theorem next_b {i y : Nat} {ys : List Nat} {e : Int × Value} {Q : Option Value → Shared → Prop} (hit : SI s.heap I (.ref tp) i el.size ep a) (hm : RawS s.heap a el ep tb) (hf : tb.fits el.size = true) (ht : TupOf s.heap tp ys) (hy : ys[i]? = some y) (he : el[y]? = some e)
    (hQ : ∀ h', SI h' I (.ref tp) (i + 1) el.size ep a → Heap.SameBut I s.heap h' → Q (some e.2) { s with heap := h' }) : wpAny (model prog w) A (pyNext (.ref I)) Q E s := by
  obtain ⟨o, ho, hc, hd⟩ := id hit
  obtain ⟨ob, g1, g2, g3⟩ := id hm
  obtain ⟨ot, n, t1, t2⟩ := ht
  unfold pyNext
  refine wpAny_bind (wpAny_attempt (wpAny_callSpecial?_slot (name := Str.ofString "__next__") hit.typeIs si_next (wpAny_call_entry si_next hit.typeIs si_entry_next ?_ (si_args_next _))))
  unfold Builtin.«set_iterator.__next__»
  refine wpAny_bind (wpAny_pure ?_)
  refine wpAny_bind (wpAny_fieldsOf ho hd ?_)
  refine wpAny_bind (wpAny_setEntries_of g1 g3 hf ?_)
  rw [if_neg (by simp)]
  refine wpAny_bind (wpAny_seqItems t1 t2 ?_)
  dsimp only
  have ey : (ys.map fun (i : Nat) => rawInt i).toArray[(i : Int).toNat]? = some (.int (y : Int) 0) := by
    rw [Int.toNat_natCast, List.getElem?_toArray, List.getElem?_map, hy]
    rfl
  rw [ey]
  dsimp only
  rw [Int.toNat_natCast, Int.toNat_natCast]
  unfold setNextDrawn
  refine wpAny_bind (wpAny_bind (wpAny_setState_of g1 g3 hf ?_))
  show wpAny _ _ (if (ep != ep) = true then _ else _) _ _ s
  rw [if_neg (by simp)]
  obtain ⟨e1, e2⟩ := e
  show wpAny _ _ (match el[y]? with | some (_, x) => _ | _ => _) _ _ s
  rw [he]
  refine wpAny_pure ?_
  refine wpAny_bind (wpAny_setField ho hd (by simp) ?_)
  exact wpAny_pure ⟨_, rfl, wpAny_pure (hQ _ (si_up1 ho hc hd) (Heap.SameBut.update ..))⟩
theorem end_b {i : Nat} {ys : List Nat} {Q : Option Value → Shared → Prop} (hh : A.handled = none) (hit : SI s.heap I (.ref tp) i el.size ep a) (hm : RawS s.heap a el ep tb) (hf : tb.fits el.size = true) (ht : TupOf s.heap tp ys) (hy : ys[i]? = none)
    (hQ : ∀ h', (∀ b o, b ≠ I → s.heap.get? b = some o → h'.get? b = some o) → Q none { s with heap := h' }) : wpAny (model prog w) A (pyNext (.ref I)) Q E s := by
  obtain ⟨o, ho, hc, hd⟩ := id hit
  obtain ⟨ob, g1, g2, g3⟩ := id hm
  obtain ⟨ot, n, t1, t2⟩ := ht
  unfold pyNext
  refine wpAny_bind (wpAny_attempt (wpAny_callSpecial?_slot (name := Str.ofString "__next__") hit.typeIs si_next (wpAny_call_entry si_next hit.typeIs si_entry_next ?_ (si_args_next _))))
  unfold Builtin.«set_iterator.__next__»
  refine wpAny_bind (wpAny_pure ?_)
  refine wpAny_bind (wpAny_fieldsOf ho hd ?_)
  refine wpAny_bind (wpAny_setEntries_of g1 g3 hf ?_)
  rw [if_neg (by simp)]
  refine wpAny_bind (wpAny_seqItems t1 t2 ?_)
  dsimp only
  have ey : (ys.map fun (i : Nat) => rawInt i).toArray[(i : Int).toNat]? = none := by
    rw [Int.toNat_natCast, List.getElem?_toArray, List.getElem?_map, hy]
    rfl
  rw [ey]
  dsimp only
  refine wpAny_bind (wpAny_setField ho hd (by simp) ?_)
  have e1 : (s.heap.update I (Obj.mapFields (·.setIfInBounds 0 (rawInt 0)))).get? I = some (Obj.mapFields (·.setIfInBounds 0 (rawInt 0)) o) := Heap.get?_update_self _ ho (Obj.isFreed_of_fields (Obj.data_mapFields hd _))
  refine wpAny_bind (wpAny_setField e1 (Obj.data_mapFields hd _) (by simp) ?_)
  refine stop_tail hh fun h' k => hQ h' fun b o' nb e => k b o' ((Heap.SameBut.update _ I _).extBut b o' nb ((Heap.SameBut.update s.heap I _).extBut b o' nb e))
theorem self_it {f : Value} {i : Nat} {Q : Value → Shared → Prop} (hit : SI s.heap I f i el.size ep a) (h : Q (.ref I) s) : wpAny (model prog w) A (pyIter (.ref I)) Q E s := by
  refine wpAny_pyIter_slot hit.typeIs si_iter (wpAny_call_entry si_iter hit.typeIs si_entry_iter ?_ (si_args_iter _))
  show wpAny _ _ (ret (.ref I)) _ _ s
  exact wpAny_pure ⟨_, rfl, "set_iterator", _, hit.typeIs, si_next.lookup, h⟩
/-- the order in which a table's set is gone through -/
def ordA (w : World) (a : Addr) (ep : Nat) (el : Array (Int × Value)) : List (Int × Value) := if w.params.followText "set-order" = true then (pickOrder (w.params.setOrder a ep) el).toList else el.toList
theorem ordA_perm : (ordA w a ep el).Perm el.toList := by
  unfold ordA
  split
  · exact pick_perm _ _
  · exact List.Perm.refl _
theorem ris_few {xs : Array Nat} (h : xs.size ≤ 1) : Ris xs := by
  unfold Ris
  have hl : xs.toList.length ≤ 1 := by simpa using h
  generalize xs.toList = l at hl
  cases l with
  | nil => exact List.Pairwise.nil
  | cons x r => cases r with
    | nil => exact List.pairwise_singleton _ _
    | cons y r => simp at hl
theorem walk_a (hh : A.handled = none) (hIa : a ≠ I) (hf : tb.fits el.size = true) (hc : w.params.followText "set-order" = true ∨ tb.plain = true ∨ el.size ≤ 1) (gt : GT (!w.params.followText "set-order") tb) :
    Walks prog w A I [I, a] [I] el.size (fun i v => ∃ e, (ordA w a ep el)[i]? = some e ∧ v = e.2) (fun i h => ∃ slot : Nat, SI h I (.int slot 0) i el.size ep a ∧ RawS h a el ep tb ∧ (w.params.followText "set-order" = false → SetTable.below tb.place slot = i)) where
  sub := fun b hb => by simp at hb; simp [hb]
  frame := fun _ _ _ ⟨slot, h1, h2, h3⟩ hk => ⟨slot, h1.keep fun o e => hk I (by simp) o e, h2.keep fun o e => hk a (by simp) o e, h3⟩
  item := fun i s Q E hi ⟨slot, h1, h2, h3⟩ hQ => by
    have lo : i < (ordA w a ep el).length := by rw [ordA_perm.length_eq]; simpa using hi
    cases ht : w.params.followText "set-order" with
    | true =>
      have ei : (pickOrder (w.params.setOrder a ep) el)[i]? = some (ordA w a ep el)[i] := by
        rw [← Array.getElem?_toList]
        have : (pickOrder (w.params.setOrder a ep) el).toList = ordA w a ep el := by unfold ordA; rw [if_pos ht]
        rw [this]
        exact List.getElem?_eq_getElem lo
      refine next_a (x := (ordA w a ep el)[i].2) (nx := slot) h1 h2 hf (fun A' E' Q' q => sn_text h2 hf ht (by rw [ei]; exact q)) fun h' st sb => ?_
      exact hQ _ h' s.toks ⟨_, List.getElem?_eq_getElem lo, rfl⟩ ⟨slot, st, h2.keep fun o e => sb.extBut a o hIa e, fun z => by rw [ht] at z; cases z⟩ fun b o hb e => sb.extBut b o (fun z => hb (by simp [z])) e
    | false =>
      have hp : tb.plain = true ∨ el.size ≤ 1 := hc.resolve_left (by rw [ht]; simp)
      have ps : tb.place.size = el.size := by
        simp only [SetTable.fits, Bool.and_eq_true, beq_iff_eq] at hf
        exact hf.1
      have rs : Ris tb.place := hp.elim gt.rs fun z => ris_few (by omega)
      have eo : ordA w a ep el = el.toList := by unfold ordA; rw [if_neg (by rw [ht]; simp)]
      have e1 : el[i]? = some el[i] := Array.getElem?_eq_getElem hi
      have e2 : tb.place[i]? = some (tb.place[i]'(by omega)) := Array.getElem?_eq_getElem (by omega)
      refine next_a (x := el[i].2) (nx := tb.place[i]'(by omega) + 1) h1 h2 hf (fun A' E' Q' q => sn_plain (i := i) h2 hf ht hp (by rw [gt.ld, ht]; rfl) (h3 ht) (by rw [e1, e2]; exact q)) fun h' st sb => ?_
      exact hQ _ h' s.toks ⟨el[i], by rw [eo, Array.getElem?_toList]; exact e1, rfl⟩ ⟨_, st, h2.keep fun o e => sb.extBut a o hIa e, fun _ => below_next rs e2⟩ fun b o hb e => sb.extBut b o (fun z => hb (by simp [z])) e
  done := fun s Q E ⟨slot, h1, h2, h3⟩ hQ => by
    cases ht : w.params.followText "set-order" with
    | true =>
      have ei : (pickOrder (w.params.setOrder a ep) el)[el.size]? = none := by
        rw [← Array.getElem?_toList]
        exact List.getElem?_eq_none (by rw [(pick_perm _ _).length_eq]; simp)
      exact end_a hh h1 h2 hf (fun A' E' Q' q => sn_text h2 hf ht (by rw [ei]; exact q)) fun h' k => hQ h' s.toks fun b o hb e => k b o (fun z => hb (by simp [z])) e
    | false =>
      have hp : tb.plain = true ∨ el.size ≤ 1 := hc.resolve_left (by rw [ht]; simp)
      exact end_a hh h1 h2 hf (fun A' E' Q' q => sn_plain (i := el.size) h2 hf ht hp (by rw [gt.ld, ht]; rfl) (h3 ht) (by rw [Array.getElem?_eq_none (Nat.le_refl _)]; exact q)) fun h' k => hQ h' s.toks fun b o hb e => k b o (fun z => hb (by simp [z])) e
  self := fun i s Q E ⟨slot, h1, _⟩ h => self_it h1 h
theorem walk_b {ys : List Nat} (hh : A.handled = none) (hIa : a ≠ I) (hIt : tp ≠ I) (hf : tb.fits el.size = true) (hp : ys.Perm (List.range el.size)) :
    Walks prog w A I [I, a, tp] [I] el.size (fun i v => ∃ y e, ys[i]? = some y ∧ el[y]? = some e ∧ v = e.2) (fun i h => SI h I (.ref tp) i el.size ep a ∧ RawS h a el ep tb ∧ TupOf h tp ys) where
  sub := fun b hb => by simp at hb; simp [hb]
  frame := fun _ _ _ ⟨h1, h2, h3⟩ hk => ⟨h1.keep fun o e => hk I (by simp) o e, h2.keep fun o e => hk a (by simp) o e, h3.keep fun o e => hk tp (by simp) o e⟩
  item := fun i s Q E hi ⟨h1, h2, h3⟩ hQ => by
    have hl : ys.length = el.size := by rw [hp.length_eq, List.length_range]
    have e1 : ys[i]? = some ys[i] := List.getElem?_eq_getElem (by omega)
    have hy : ys[i] < el.size := List.mem_range.mp (hp.mem_iff.mp (List.getElem_mem _))
    have e2 : el[ys[i]]? = some el[ys[i]] := Array.getElem?_eq_getElem hy
    refine next_b h1 h2 hf h3 e1 e2 fun h' st sb => ?_
    exact hQ _ h' s.toks ⟨_, _, e1, e2, rfl⟩ ⟨st, h2.keep fun o e => sb.extBut a o hIa e, h3.keep fun o e => sb.extBut tp o hIt e⟩ fun b o hb e => sb.extBut b o (fun z => hb (by simp [z])) e
  done := fun s Q E ⟨h1, h2, h3⟩ hQ => by
    have hl : ys.length = el.size := by rw [hp.length_eq, List.length_range]
    exact end_b hh h1 h2 hf h3 (List.getElem?_eq_none (by omega)) fun h' k => hQ h' s.toks fun b o hb e => k b o (fun z => hb (by simp [z])) e
  self := fun i s Q E ⟨h1, _⟩ h => self_it h1 h
end
end STb
namespace STb
open PySem PySem.Spec PyProof.Rows PySem.Calls L2
section
variable {prog : Program} {w : World} {A : Around} {E : Value → Shared → Prop} {s : Shared} {a : Addr} {el : Array (Int × Value)} {ep : Nat} {tb : SetTable}
theorem hint_set {Q : Bool → Shared → Prop} (hT : s.TypeIs (.ref a) "set") (h : Q false s) : wpAny (model prog w) A (Builtin.List.listLengthHint (.ref a)) Q E s := by
  unfold Builtin.List.listLengthHint
  refine wpAny_bind (wpAny_specialOf hT PySem.F.slot_set_len.lookup ?_)
  generalize hid : ("set.__len__" : String) = id0
  wp_delta
  rw [show splitId id0 = some ("set", "__len__") from by subst hid; decide +kernel]
  subst hid
  refine wpAny_bind (wpAny_isInstance (T := "set") (b := true) hT sub_set_self ?_)
  refine wpAny_ite_split (fun hab => absurd hab (by decide)) (fun _ => ?_)
  refine wpAny_ite_split (fun _ => wpAny_bind (wpAny_typeOf hT (wpAny_pure h))) (fun hab => absurd (by decide +kernel) hab)
/-- the loop that gathers, wherever the iterator goes -/
theorem gather {I S : Addr} {fp : List Addr} {n : Nat} {P : Nat → Value → Prop} {St : Nat → Heap → Prop} {res : Value} {c : Nat} {R : Result → Shared → Prop} {s0 : Shared} (W : Walks prog w A.in1 I fp [I] n P St) (hSf : S ∉ fp) (hn : n ≤ sizeLine) (hI : s0.heap.objs.size ≤ I)
    (k0 : ∀ b o, b ≠ S → s0.heap.get? b = some o → s.heap.get? b = some o) (st : St 0 s.heap) (hS : s.heap.get? S = some { cls := .type "list", data := .seq #[] c })
    (q : ∀ (s' : Shared) (acc : Array Value) (c' : Nat), s'.gens = s.gens → s'.drawn = s.drawn → s'.os = s.os → (∀ b o, b ≠ S → s0.heap.get? b = some o → s'.heap.get? b = some o) → s'.heap.get? S = some { cls := .type "list", dict := none, data := .seq acc c', slots := #[] } → ItemsOf P acc n → R (.ok (.ret res)) s') :
    codeAny (model prog w) A (.builtin "list.extend.loop" ⟨[.ref S, .ref I, res], []⟩) R s := by
  refine codeAny_extend_loopS W.toS hn S hSf res n 0 s #[] c rfl (Nat.zero_le _) st hS (ItemsOf.nil _) fun s' acc c' mv hS' ha => ?_
  refine q s' acc c' mv.gens mv.drawn mv.os (fun b o hb e => mv.heap b o (fun z => ?_) (k0 b o hb e)) hS' ha
  rcases List.mem_cons.mp z with z | z
  · exact hb z
  · have hlt := Heap.lt_size e
    rw [List.mem_singleton.mp z] at hlt
    exact absurd (Nat.lt_of_lt_of_le hlt hI) (Nat.lt_irrefl _)
/-- what is gathered of a set: its items, in some order -/
def Gath (el : Array (Int × Value)) (acc : Array Value) : Prop := ∃ l : List (Int × Value), l.Perm el.toList ∧ acc.toList = l.map (·.2)
theorem gath_a {acc : Array Value} (h : ItemsOf (fun i v => ∃ e, (ordA w a ep el)[i]? = some e ∧ v = e.2) acc el.size) : Gath el acc := by
  refine ⟨ordA w a ep el, ordA_perm, ?_⟩
  have hl : (ordA w a ep el).length = el.size := by rw [ordA_perm.length_eq]; simp
  apply List.ext_getElem?
  intro j
  by_cases hj : j < el.size
  · have hz : j < acc.size := by rw [h.1]; exact hj
    obtain ⟨e, he, hv⟩ := h.2 j acc[j] (by simp [hz])
    rw [Array.getElem?_toList, Array.getElem?_eq_getElem hz, hv, List.getElem?_map, he]
    rfl
  · rw [List.getElem?_eq_none (by rw [Array.length_toList, h.1]; omega), List.getElem?_eq_none (by rw [List.length_map]; omega)]
theorem range_perm {α : Type} {l : List α} {ys : List Nat} (h : ys.Perm (List.range l.length)) : (ys.filterMap fun i => l[i]?).Perm l := by
  refine (h.filterMap _).trans ?_
  rw [List.filterMap_getElem?_range_length]
theorem gath_b {ys : List Nat} {acc : Array Value} (hp : ys.Perm (List.range el.size)) (h : ItemsOf (fun i v => ∃ y e, ys[i]? = some y ∧ el[y]? = some e ∧ v = e.2) acc el.size) : Gath el acc := by
  have hl : ys.length = el.size := by rw [hp.length_eq, List.length_range]
  refine ⟨ys.map fun y => el.toList.getD y (0, .none), ?_, ?_⟩
  · have e : (ys.map fun y => el.toList.getD y (0, .none)) = ys.filterMap fun i => el.toList[i]? := by
      rw [← List.filterMap_eq_map]
      refine fm_eq fun y hy => ?_
      have hy' : y < el.toList.length := by have := List.mem_range.mp (hp.mem_iff.mp hy); simpa using this
      simp only [Function.comp]
      rw [List.getD_eq_getElem?_getD, List.getElem?_eq_getElem hy']
      rfl
    rw [e]
    exact range_perm (by simpa using hp)
  · apply List.ext_getElem?
    intro j
    by_cases hj : j < el.size
    · have hz : j < acc.size := by rw [h.1]; exact hj
      obtain ⟨y, e, h1, h2, hv⟩ := h.2 j acc[j] (by simp [hz])
      rw [Array.getElem?_toList, Array.getElem?_eq_getElem hz, hv, List.getElem?_map, List.getElem?_map, h1]
      show some e.2 = some (el.toList.getD y (0, .none)).2
      rw [List.getD_eq_getElem?_getD, Array.getElem?_toList, h2]
      rfl
    · rw [List.getElem?_eq_none (by rw [Array.length_toList, h.1]; omega), List.getElem?_eq_none (by rw [List.length_map, List.length_map]; omega)]
where
  fm_eq {α β : Type} {f g : α → Option β} : ∀ {l : List α}, (∀ m ∈ l, f m = g m) → l.filterMap f = l.filterMap g
    | [], _ => rfl
    | x :: r, h => by
      rw [List.filterMap_cons, List.filterMap_cons, h x List.mem_cons_self, fm_eq fun m hm => h m (List.mem_cons_of_mem _ hm)]
theorem set_extend {S : Addr} {res : Value} {c : Nat} {R : Result → Shared → Prop} (hh : A.handled = none) (hm : RawS s.heap a el ep tb) (hf : tb.fits el.size = true) (gt : GT (!w.params.followText "set-order") tb) (hz : el.size ≤ 100000) (hSa : S ≠ a)
    (hS : s.heap.get? S = some { cls := .type "list", data := .seq #[] c })
    (q : ∀ (s' : Shared) (acc : Array Value) (c' : Nat), s'.gens = s.gens → s'.os = s.os → (∀ b o, b ≠ S → s.heap.get? b = some o → s'.heap.get? b = some o) → s'.heap.get? S = some { cls := .type "list", dict := none, data := .seq acc c', slots := #[] } → Gath el acc → R (.ok (.ret res)) s') :
    wpAny (model prog w) A.in1 (Builtin.List.listExtendWith (.ref S) (.ref a) res)
      (fun fin s' => match fin with | .done f => R (.ok f) s' | .again c' => c'.quiet = true ∧ codeAny (model prog w) A c' R s') (fun e s' => R (.error e) s') s := by
  have nS : el.size ≤ sizeLine := by have : sizeLine = 16777216 := rfl; omega
  unfold Builtin.List.listExtendWith
  refine wpAny_bind (wpAny_typeOf (T := "set") hm.typeIs ?_)
  have h1 : Builtin.List.listSameRef (.ref S) (.ref a) = false := by simp [Builtin.List.listSameRef, hSa]
  have h2 : (Value.type "set" == Value.type "list") = false := by decide
  have h3 : (Value.type "set" == Value.type "tuple") = false := by decide
  simp only [h1, h2, h3, Bool.or_false, Bool.false_eq_true, if_false]
  have nSI : ∀ I, s.heap.objs.size ≤ I → S ≠ I := fun I h z => absurd (Nat.lt_of_lt_of_le (Heap.lt_size hS) h) (by rw [z]; exact Nat.lt_irrefl _)
  have naI : ∀ I, s.heap.objs.size ≤ I → a ≠ I := fun I h z => absurd (Nat.lt_of_lt_of_le hm.lt h) (by rw [z]; exact Nat.lt_irrefl _)
  refine wpAny_bind (iter_wp hm hf (fun hc => ?_) (fun ys d' hp => ?_) hz)
  · have W := walk_a (prog := prog) (w := w) (A := A.in1) (I := s.heap.objs.size) (ep := ep) hh (naI _ (Nat.le_refl _)) hf hc gt
    have nf : S ∉ [s.heap.objs.size, a] := by simp only [List.mem_cons, List.not_mem_nil, or_false, not_or]; exact ⟨nSI _ (Nat.le_refl _), hSa⟩
    have kp : ∀ b o, s.heap.get? b = some o → (s.heap.push (itObj (.int 0 0) el.size ep a)).get? b = some o := fun b o e => Heap.get?_push_of_some _ e
    have st0 : ∃ slot : Nat, SI (s.heap.push (itObj (.int 0 0) el.size ep a)) s.heap.objs.size (.int slot 0) 0 el.size ep a ∧ RawS (s.heap.push (itObj (.int 0 0) el.size ep a)) a el ep tb ∧ (w.params.followText "set-order" = false → SetTable.below tb.place slot = 0) := by
      refine ⟨0, ⟨_, Heap.get?_push_size _ rfl, rfl, rfl⟩, hm.keep fun o e => kp _ o e, fun ht => below_zero ?_⟩
      have ps : tb.place.size = el.size := by
        simp only [SetTable.fits, Bool.and_eq_true, beq_iff_eq] at hf
        exact hf.1
      exact (hc.resolve_left (by rw [ht]; simp)).elim gt.rs fun z => ris_few (by omega)
    refine wpAny_bind (wpAny_holding (hint_set (RawS.typeIs (hm.keep fun o e => kp _ o e)) ?_))
    refine wpAny_ite_split (fun _ => ?_) (fun _ => ?_)
    · refine wpAny_bind (wpAny_rule (wpAny_bind ?_))
      show wpAny _ _ (updateSeq S (·.push .none) >>= fun _ => updateSeq S (·.pop)) _ _ _
      refine wpAny_bind (wpAny_updateSeq (kp _ _ hS) rfl ?_)
      have hS2 := Heap.get?_update_self (Obj.mapSeq (·.push Value.none)) (kp _ _ hS) rfl
      refine wpAny_updateSeq (hz := by seq_fits) hS2 rfl ?_
      have hS3 := Heap.get?_update_self (Obj.mapSeq (·.pop)) hS2 rfl
      have up : ∀ b o, b ≠ S → (s.heap.push (itObj (.int 0 0) el.size ep a)).get? b = some o → (((s.heap.push (itObj (.int 0 0) el.size ep a)).update S (Obj.mapSeq (·.push Value.none))).update S (Obj.mapSeq (·.pop))).get? b = some o := fun b o hb e => (Heap.get?_update_other _ _ (Ne.symm hb)).trans ((Heap.get?_update_other _ _ (Ne.symm hb)).trans e)
      refine wpAny_pure ⟨plainId_quiet PySem.F.plain_extend_loop _, gather W nf nS (Nat.le_refl _) (fun b o hb e => up b o hb (kp b o e)) (W.frame 0 _ _ st0 fun b hb o e => up b o (fun z => nf (z ▸ hb)) e) hS3 fun s' acc c' e1 _ e3 k hS' ha => q s' acc c' e1 e3 k hS' (gath_a ha)⟩
    · exact wpAny_pure ⟨plainId_quiet PySem.F.plain_extend_loop _, gather W nf nS (Nat.le_refl _) (fun b o _ e => kp b o e) st0 (kp _ _ hS) fun s' acc c' e1 _ e3 k hS' ha => q s' acc c' e1 e3 k hS' (gath_a ha)⟩
  · have hT : (s.heap.push { cls := .type "tuple", data := .seq (ys.map fun (i : Nat) => rawInt i).toArray }).objs.size = s.heap.objs.size + 1 := Heap.size_push ..
    have hI : s.heap.objs.size ≤ (s.heap.push { cls := .type "tuple", data := .seq (ys.map fun (i : Nat) => rawInt i).toArray }).objs.size := by rw [hT]; exact Nat.le_succ _
    have ntI : s.heap.objs.size ≠ (s.heap.push { cls := .type "tuple", data := .seq (ys.map fun (i : Nat) => rawInt i).toArray }).objs.size := by rw [hT]; exact Nat.ne_of_lt (Nat.lt_succ_self _)
    have W := walk_b (prog := prog) (w := w) (A := A.in1) (I := (s.heap.push { cls := .type "tuple", data := .seq (ys.map fun (i : Nat) => rawInt i).toArray }).objs.size) (tp := s.heap.objs.size) (tb := tb) (ep := ep) hh (naI _ hI) ntI hf hp
    have nf : S ∉ [(s.heap.push { cls := .type "tuple", data := .seq (ys.map fun (i : Nat) => rawInt i).toArray }).objs.size, a, s.heap.objs.size] := by
      simp only [List.mem_cons, List.not_mem_nil, or_false, not_or]
      exact ⟨nSI _ hI, hSa, nSI _ (Nat.le_refl _)⟩
    have kp : ∀ b o, s.heap.get? b = some o → ((s.heap.push { cls := .type "tuple", data := .seq (ys.map fun (i : Nat) => rawInt i).toArray }).push (itObj (.ref s.heap.objs.size) el.size ep a)).get? b = some o := fun b o e => Heap.get?_push_of_some _ (Heap.get?_push_of_some _ e)
    have st0 : SI ((s.heap.push { cls := .type "tuple", data := .seq (ys.map fun (i : Nat) => rawInt i).toArray }).push (itObj (.ref s.heap.objs.size) el.size ep a)) (s.heap.push { cls := .type "tuple", data := .seq (ys.map fun (i : Nat) => rawInt i).toArray }).objs.size (.ref s.heap.objs.size) 0 el.size ep a ∧ RawS ((s.heap.push { cls := .type "tuple", data := .seq (ys.map fun (i : Nat) => rawInt i).toArray }).push (itObj (.ref s.heap.objs.size) el.size ep a)) a el ep tb ∧ TupOf ((s.heap.push { cls := .type "tuple", data := .seq (ys.map fun (i : Nat) => rawInt i).toArray }).push (itObj (.ref s.heap.objs.size) el.size ep a)) s.heap.objs.size ys :=
      ⟨⟨_, Heap.get?_push_size _ rfl, rfl, rfl⟩, hm.keep fun o e => kp _ o e, ⟨_, _, Heap.get?_push_of_some _ (Heap.get?_push_size _ rfl), rfl⟩⟩
    generalize (s.heap.push { cls := .type "tuple", data := .seq (ys.map fun (i : Nat) => rawInt i).toArray }).objs.size = I0 at hT hI ntI W nf st0 kp ⊢
    generalize (s.heap.push { cls := .type "tuple", data := .seq (ys.map fun (i : Nat) => rawInt i).toArray }).push (itObj (.ref s.heap.objs.size) el.size ep a) = h0 at st0 kp ⊢
    refine wpAny_bind (wpAny_holding (hint_set (RawS.typeIs (hm.keep fun o e => kp _ o e)) ?_))
    refine wpAny_ite_split (fun _ => ?_) (fun _ => ?_)
    · refine wpAny_bind (wpAny_rule (wpAny_bind ?_))
      show wpAny _ _ (updateSeq S (·.push .none) >>= fun _ => updateSeq S (·.pop)) _ _ _
      refine wpAny_bind (wpAny_updateSeq (kp _ _ hS) rfl ?_)
      have hS2 := Heap.get?_update_self (Obj.mapSeq (·.push Value.none)) (kp _ _ hS) rfl
      refine wpAny_updateSeq (hz := by seq_fits) hS2 rfl ?_
      have hS3 := Heap.get?_update_self (Obj.mapSeq (·.pop)) hS2 rfl
      have up : ∀ b o, b ≠ S → h0.get? b = some o → ((h0.update S (Obj.mapSeq (·.push Value.none))).update S (Obj.mapSeq (·.pop))).get? b = some o := fun b o hb e => (Heap.get?_update_other _ _ (Ne.symm hb)).trans ((Heap.get?_update_other _ _ (Ne.symm hb)).trans e)
      refine wpAny_pure ⟨plainId_quiet PySem.F.plain_extend_loop _, gather (s0 := s) W nf nS hI (fun b o hb e => up b o hb (kp b o e)) (W.frame 0 _ _ st0 fun b hb o e => up b o (fun z => nf (z ▸ hb)) e) hS3 fun s' acc c' e1 _ e3 k hS' ha => q s' acc c' e1 e3 k hS' (gath_b hp ha)⟩
    · exact wpAny_pure ⟨plainId_quiet PySem.F.plain_extend_loop _, gather (s0 := s) W nf nS hI (fun b o _ e => kp b o e) st0 (kp _ _ hS) fun s' acc c' e1 _ e3 k hS' ha => q s' acc c' e1 e3 k hS' (gath_b hp ha)⟩
theorem set_collect {R : List Value → Shared → Prop} (hh : A.handled = none) (hm : RawS s.heap a el ep tb) (hf : tb.fits el.size = true) (gt : GT (!w.params.followText "set-order") tb) (hz : el.size ≤ 100000)
    (q : ∀ (s' : Shared) (acc : Array Value), s'.gens = s.gens → s'.os = s.os → (∀ b o, s.heap.get? b = some o → s'.heap.get? b = some o) → Gath el acc → R acc.toList s') : wpAny (model prog w) A (collect (.ref a)) R E s := by
  unfold collect
  refine wpAny_bind (wpAny_runValue (codeAny_builtin entry_proto_collect' ?_))
  rw [Around.under_plainId PySem.F.plain_proto_collect _]
  refine wpAny_bind (m := newList []) (wpAny_newObj_type ?_)
  refine wpAny_pure ⟨plainId_quiet PySem.F.plain_list_iadd _, codeAny_builtin entry_list_iadd' ?_⟩
  rw [Around.under_plainId PySem.F.plain_list_iadd _]
  have hS : (s.heap.push { cls := .type "list", data := .seq ([] : List Value).toArray }).get? s.heap.objs.size = some { cls := .type "list", data := .seq #[] } := Heap.get?_push_size _ rfl
  show wpAny _ A.in1 (Builtin.List.listExtendWith (.ref s.heap.objs.size) (.ref a) (.ref s.heap.objs.size)) _ _ _
  have key := set_extend (prog := prog) (w := w) (A := A) (s := { s with heap := s.heap.push { cls := .type "list", data := .seq ([] : List Value).toArray } }) (res := .ref s.heap.objs.size)
    (R := fun (u : Result) (s' : Shared) => ∃ (acc : Array Value) (c' : Nat), u = .ok (.ret (.ref s.heap.objs.size)) ∧ s'.gens = s.gens ∧ s'.os = s.os ∧ (∀ b o, s.heap.get? b = some o → s'.heap.get? b = some o) ∧ s'.heap.get? s.heap.objs.size = some { cls := .type "list", dict := none, data := .seq acc c', slots := #[] } ∧ Gath el acc)
    hh (hm.keep fun o e => Heap.get?_push_of_some _ e) hf gt hz (Nat.ne_of_gt hm.lt) hS (fun s' acc c' e1 e2 k hS' g => ⟨acc, c', rfl, e1, e2, fun b o e => k b o (Nat.ne_of_lt (Heap.lt_size e)) (Heap.get?_push_of_some _ e), hS', g⟩)
  refine wpAny_mono key (fun fin s' x => ?_) fun e s' x => ?_
  · cases fin with
    | done f =>
      obtain ⟨acc, c', e, e1, e2, k, hS', g⟩ := x
      cases e
      exact wpAny_bind (wpAny_load hS' (wpAny_pure (q s' acc e1 e2 k g)))
    | again c1 =>
      refine ⟨x.1, codeAny_mono x.2 fun u s2 y => ?_⟩
      obtain ⟨acc, c', rfl, e1, e2, k, hS', g⟩ := y
      exact wpAny_bind (wpAny_load hS' (wpAny_pure (q s2 acc e1 e2 k g)))
  · obtain ⟨_, _, e', _⟩ := x
    cases e'
end
end STb
/-! ### sets made of ints, sorted -/
namespace STb
open PySem PySem.Spec PyProof.Rows L2
section
variable {prog : Program} {w : World} {A : Around} {E : Value → Shared → Prop} {s : Shared}
theorem loop_g {I S : Addr} {fp : List Addr} {n : Nat} {P : Nat → Value → Prop} {St : Nat → Heap → Prop} {led : Bool} {R : Result → Shared → Prop} (W : Walks prog w A.in1 I fp [I] n P St) (hSf : S ∉ fp) (hSI : S ≠ I) (val : Nat → Int) (hv : ∀ i v, P i v → ∃ t, v = .int (val i) t) (hb : n + 1 < scanBound) :
    ∀ (k i : Nat) (s : Shared), n - i = k → i ≤ n → St i s.heap → SetG prog w led s.heap S (fun z => (firstMet val i).any fun x => x == z) (firstMet val i).length →
      (∀ s' : Shared, s'.gens = s.gens → s'.drawn = s.drawn → s'.os = s.os → (∀ b o, b ≠ S → b ≠ I → s.heap.get? b = some o → s'.heap.get? b = some o) → SetG prog w led s'.heap S (fun z => (firstMet val n).any fun x => x == z) (firstMet val n).length → R (.ok (.ret .none)) s') →
      codeAny (model prog w) A (.builtin "set.update.loop" ⟨[.ref S, .ref I], []⟩) R s := by
  intro k
  induction k with
  | zero =>
    intro i s hk hi st G q
    obtain rfl : i = n := by omega
    refine codeAny_builtin PyProof.Rows.F.entry_set_update_loop ?_
    rw [Around.under_plainId PyProof.Rows.F.plain_set_update_loop _]
    refine wpAny_bind (m := pyNext (.ref I)) (W.done s _ _ st fun h' tk kp => ?_)
    refine wpAny_pure (q _ rfl rfl rfl (fun b o _ hbI e => kp b o (fun z => hbI (by simpa using z)) e) (G.keep fun o e => kp S o (fun z => hSI (by simpa using z)) e))
  | succ k ih =>
    intro i s hk hi st G q
    have hlt : i < n := by omega
    refine codeAny_builtin PyProof.Rows.F.entry_set_update_loop ?_
    rw [Around.under_plainId PyProof.Rows.F.plain_set_update_loop _]
    refine wpAny_bind (m := pyNext (.ref I)) (W.item i s _ _ hlt st fun v h' tk hP st' kp => ?_)
    obtain ⟨t, rfl⟩ := hv i v hP
    have G' : SetG prog w led h' S (fun z => (firstMet val i).any fun x => x == z) (firstMet val i).length := G.keep fun o e => kp S o (fun z => hSI (by simpa using z)) e
    refine wpAny_bind (m := holding [Value.int (val i) t] (setAdd S (.int (val i) t))) (wpAny_holding ?_)
    unfold setAdd
    refine wpAny_holding (wpAny_bind ((intKind prog w).pyHash (k := val i) (intKind_is _ _ _ _) ?_))
    refine add_g (s := { s with heap := h', toks := tk + 1 }) G' (by have := firstMet_length_le val i; omega) fun h2 sb G2 => ?_
    have Gi : SetG prog w led h2 S (fun z => (firstMet val (i + 1)).any fun x => x == z) (firstMet val (i + 1)).length := G2.congr (fun z => by rw [firstMet_succ, step_any]) (by rw [firstMet_succ, step_length])
    refine wpAny_pure ⟨plainId_quiet PyProof.Rows.F.plain_set_update_loop _, ih (i + 1) _ (by omega) hlt (W.frame _ _ _ st' fun b hb o e => (sb.2 b fun z => hSf (z ▸ hb)).trans e) Gi fun s'' e1 e2 e3 kp2 G3 => ?_⟩
    exact q s'' e1 e2 e3 (fun b o hbS hbI e => kp2 b o hbS hbI ((sb.2 b hbS).trans (kp b o (fun z => hbI (by simpa using z)) e))) G3
def setObj (w : World) : Obj := { cls := .type "set", dict := none, data := .set #[] 0 (.fresh 0 0 (!w.params.followText "set-order")) }
theorem set_first (h : Heap) : SetG prog w (!w.params.followText "set-order") (h.push (setObj w)) h.objs.size (fun _ => false) 0 :=
  ⟨_, #[], 0, _, Heap.get?_push_size _ rfl, ⟨rfl, rfl, rfl⟩, rfl, ⟨fun e he => by simp at he, fun k => by simp, by decide, by rfl, rfl, gt_fresh _⟩⟩
theorem new_g (a : Value) {Q₁ : Value → Shared → Prop} (h : Q₁ (.ref s.heap.objs.size) { s with heap := s.heap.push (setObj w) }) : codeAny (model prog w) A (.call (.builtin "set.__new__") ⟨[.type "set", a], []⟩) (wants Q₁ E) s := by
  refine codeAny_of_tree (wpAny_bind (m := checkBuiltinCall "set.__new__" ⟨[.type "set", a], []⟩) (wpAny_of_eq (PySem.F.newCall_set_1 a) (wpAny_pure ⟨plainId_quiet PySem.F.plain_set_new _, codeAny_builtin PySem.F.entry_set_new ?_⟩)))
  rw [Around.under_plainId PySem.F.plain_set_new _]
  unfold Builtin.«set.__new__» Builtin.Frozenset.newClass
  have sub := sub_set_self
  obtain ⟨hp, g, d, tk, os⟩ := s
  dsimp only
  wp_walk
  refine wpAny_askSetting (wpAny_pure ?_)
  dsimp only
  simp only [newObj]
  exact wpAny_bind (wpAny_alloc (wpAny_pure (wpAny_pure h)))
theorem mk_list {l : Addr} {its : List Value} {ns : List Int} {Q : Value → Shared → Prop} (hA : A.handled = none) (hl : s.heap.IsList l its.toArray) (hi : IntsAre its ns) (hz : its.length + 1 < scanBound)
    (q : ∀ (h : Heap) (tk : Nat), (∀ b o, s.heap.get? b = some o → h.get? b = some o) → SetG prog w (!w.params.followText "set-order") h s.heap.objs.size (fun z => (firstMet (fun i => ns.getD i 0) its.length).any fun x => x == z) (firstMet (fun i => ns.getD i 0) its.length).length → Q (.ref s.heap.objs.size) { s with heap := h, toks := tk }) :
    wpAny (model prog w) A (call (.type "set") [.ref l]) Q E s := by
  refine wpAny_call (codeAny_of_tree (wpAny_pure ⟨Code.quiet_builtin _ (by decide +kernel), codeAny_builtin PySem.F.entry_type_call ?_⟩))
  unfold Builtin.«type.__call__»
  dsimp only
  rw [if_neg (by rw [PySem.F.called_set.notType]; decide)]
  rw [if_neg (by rw [PySem.F.called_set.canCreate]; decide)]
  obtain ⟨c, tl, hm⟩ := PySem.F.called_set.mro
  refine wpAny_bind (wpAny_of_eq (PySem.F.typeCall_set_1 _) (wpAny_pure (wpAny_bind (wpAny_of_eq hm (wpAny_pure ?_)))))
  refine wpAny_bind (wpAny_of_eq PySem.F.called_set.made (wpAny_pure (wpAny_bind (wpAny_pure ?_))))
  refine wpAny_bind (wpAny_holding (wpAny_call (codeAny_mono (new_g (E := E) (.ref l) (Q₁ := fun obj s₁ => obj = .ref s.heap.objs.size ∧ s₁ = { s with heap := s.heap.push (setObj w) }) ⟨rfl, rfl⟩) fun r s₁ e => ?_)))
  match r, e with
  | .ok (.ret obj), e =>
    obtain ⟨rfl, rfl⟩ := e
    have h0 : ∀ b o, s.heap.get? b = some o → (s.heap.push (setObj w)).get? b = some o := fun b o e => Heap.get?_push_of_some _ e
    have ht : ∀ h : Heap, (∀ b o, s.heap.get? b = some o → h.get? b = some o) → h.IsList l its.toArray := fun h K => by
      obtain ⟨o, ho, hr⟩ := hl
      exact ⟨o, K _ _ ho, hr⟩
    have hlt : l < s.heap.objs.size := by
      obtain ⟨o, ho, _⟩ := hl
      exact Heap.lt_size ho
    have tyS : Shared.TypeIs { s with heap := s.heap.push (setObj w) } (.ref s.heap.objs.size) "set" := ⟨_, Heap.get?_push_size _ rfl, rfl⟩
    show wpAny _ _ _ _ _ _
    refine wpAny_bind (wpAny_isInstance tyS PySem.F.called_set.sub ?_)
    refine wpAny_bind (wpAny_holding ?_)
    unfold callSpecial?
    refine wpAny_bind (wpAny_specialOf tyS PySem.F.called_set.init.lookup (wpAny_holding (wpAny_bind (wpAny_of_eq (PySem.F.called_set.init.bind _) (wpAny_pure (wpAny_bind (wpAny_call (codeAny_call_builtin PySem.F.called_set.init.plain PySem.F.entry_set_init (check_set_init_1 tyS ?_)))))))))
    unfold Builtin.«set.__init__»
    refine wpAny_bind (wpAny_of_eq (m' := pure ()) rfl (wpAny_pure ?_))
    dsimp only
    refine wpAny_bind (wpAny_bind (wpAny_bind (wpAny_typeOf tyS (wpAny_of_eq (m' := pure (Value.type "set")) rfl (wpAny_pure (wpAny_of_eq (m' := pure "set") rfl (wpAny_pure ?_)))))))
    refine wpAny_bind (wpAny_of_eq (m' := pure ()) rfl (wpAny_pure (wpAny_bind (wpAny_pure ?_))))
    refine wpAny_bind (wpAny_bind (wpAny_bind (wpAny_load (Heap.get?_push_size _ rfl) ?_)))
    refine wpAny_of_eq (m' := pure (#[], 0, SetTable.fresh 0 0 (!w.params.followText "set-order"))) (by unfold setObj; cases w.params.followText "set-order" <;> rfl) (wpAny_pure (wpAny_of_eq (m' := pure false) (by cases w.params.followText "set-order" <;> rfl) (wpAny_pure ?_)))
    have tyT : ∀ h tk, (∀ b o, s.heap.get? b = some o → h.get? b = some o) → Shared.TypeIs { s with heap := h, toks := tk } (.ref l) "list" := fun h tk K => by
      obtain ⟨o, ho, hr⟩ := ht h K
      exact ⟨o, ho, hr.1⟩
    show wpAny _ _ (Builtin.Frozenset.updateFrom "set.__init__" s.heap.objs.size (.ref l) >>= _) _ _ _
    unfold Builtin.Frozenset.updateFrom
    refine wpAny_bind (wpAny_bind (wpAny_bind (wpAny_isInstance (tyT _ _ h0) PySem.F.sub_list_set (wpAny_isInstance (tyT _ _ h0) (b := false) PySem.F.sub_list_frozenset ?_))))
    refine wpAny_bind (wpAny_typeOf (tyT _ _ h0) ?_)
    refine wpAny_bind (wpAny_pyIter_list (ht _ h0) (wpAny_bind (wpAny_runValue ?_)))
    have hsz : (s.heap.push (setObj w)).objs.size = s.heap.objs.size + 1 := Heap.size_push ..
    have nli : l ≠ (s.heap.push (setObj w)).objs.size := Nat.ne_of_lt (by rw [hsz]; exact Nat.lt_succ_of_lt hlt)
    have nsi : s.heap.objs.size ≠ (s.heap.push (setObj w)).objs.size := by rw [hsz]; exact Nat.ne_of_lt (Nat.lt_succ_self _)
    refine loop_g (led := !w.params.followText "set-order") (Walks.list (prog := prog) (w := w) (A := (A.under (Code.builtin "type.__call__" { pos := [.type "set", .ref l] })).in1.in1) hA (s.heap.push (setObj w)).objs.size l nli its.toArray) ?_ nsi (fun i => ns.getD i 0) ?_ (by simpa using hz) its.toArray.size 0 _ rfl (Nat.zero_le _) ?_ ?_ ?_
    · intro z
      rcases List.mem_cons.mp z with z | z
      · exact nsi z
      · exact absurd (List.mem_singleton.mp z) (Nat.ne_of_gt hlt)
    · intro i v hv
      rw [List.getElem?_toArray] at hv
      exact hi.int_at i v hv
    · exact ⟨⟨_, Heap.get?_push_size _ rfl, rfl, rfl⟩, ht _ fun b o e => Heap.get?_push_of_some _ (h0 b o e)⟩
    · exact (set_first (prog := prog) (w := w) s.heap).keep fun o e => Heap.get?_push_of_some _ e
    · intro s' e1 e2 e3 kp so
      refine wpAny_pure (wpAny_pure (wpAny_pure (wpAny_pure ?_)))
      obtain ⟨h', g', d', t', o'⟩ := s'
      cases e1
      cases e2
      cases e3
      refine q h' t' (fun b o e => kp b o (Nat.ne_of_lt (Heap.lt_size e)) (fun z => ?_) (Heap.get?_push_of_some _ (h0 b o e))) (by simpa using so)
      have hb : b < s.heap.objs.size := Heap.lt_size e
      rw [z, hsz] at hb
      exact absurd hb (Nat.not_lt.mpr (Nat.le_succ _))
  | .ok .next, e => exact e.elim
  | .ok .brk, e => exact e.elim
  | .ok .cont, e => exact e.elim
  | .error v, e => exact e
theorem mk_tup {l : Addr} {its : List Value} {ns : List Int} {Q : Value → Shared → Prop} (hA : A.handled = none) (hl : s.heap.IsTuple l its.toArray) (hi : IntsAre its ns) (hz : its.length + 1 < scanBound)
    (q : ∀ (h : Heap) (tk : Nat), (∀ b o, s.heap.get? b = some o → h.get? b = some o) → SetG prog w (!w.params.followText "set-order") h s.heap.objs.size (fun z => (firstMet (fun i => ns.getD i 0) its.length).any fun x => x == z) (firstMet (fun i => ns.getD i 0) its.length).length → Q (.ref s.heap.objs.size) { s with heap := h, toks := tk }) :
    wpAny (model prog w) A (call (.type "set") [.ref l]) Q E s := by
  refine wpAny_call (codeAny_of_tree (wpAny_pure ⟨Code.quiet_builtin _ (by decide +kernel), codeAny_builtin PySem.F.entry_type_call ?_⟩))
  unfold Builtin.«type.__call__»
  dsimp only
  rw [if_neg (by rw [PySem.F.called_set.notType]; decide)]
  rw [if_neg (by rw [PySem.F.called_set.canCreate]; decide)]
  obtain ⟨c, tl, hm⟩ := PySem.F.called_set.mro
  refine wpAny_bind (wpAny_of_eq (PySem.F.typeCall_set_1 _) (wpAny_pure (wpAny_bind (wpAny_of_eq hm (wpAny_pure ?_)))))
  refine wpAny_bind (wpAny_of_eq PySem.F.called_set.made (wpAny_pure (wpAny_bind (wpAny_pure ?_))))
  refine wpAny_bind (wpAny_holding (wpAny_call (codeAny_mono (new_g (E := E) (.ref l) (Q₁ := fun obj s₁ => obj = .ref s.heap.objs.size ∧ s₁ = { s with heap := s.heap.push (setObj w) }) ⟨rfl, rfl⟩) fun r s₁ e => ?_)))
  match r, e with
  | .ok (.ret obj), e =>
    obtain ⟨rfl, rfl⟩ := e
    have h0 : ∀ b o, s.heap.get? b = some o → (s.heap.push (setObj w)).get? b = some o := fun b o e => Heap.get?_push_of_some _ e
    have ht : ∀ h : Heap, (∀ b o, s.heap.get? b = some o → h.get? b = some o) → h.IsTuple l its.toArray := fun h K => by
      obtain ⟨o, ho, hr⟩ := hl
      exact ⟨o, K _ _ ho, hr⟩
    have hlt : l < s.heap.objs.size := by
      obtain ⟨o, ho, _⟩ := hl
      exact Heap.lt_size ho
    have tyS : Shared.TypeIs { s with heap := s.heap.push (setObj w) } (.ref s.heap.objs.size) "set" := ⟨_, Heap.get?_push_size _ rfl, rfl⟩
    show wpAny _ _ _ _ _ _
    refine wpAny_bind (wpAny_isInstance tyS PySem.F.called_set.sub ?_)
    refine wpAny_bind (wpAny_holding ?_)
    unfold callSpecial?
    refine wpAny_bind (wpAny_specialOf tyS PySem.F.called_set.init.lookup (wpAny_holding (wpAny_bind (wpAny_of_eq (PySem.F.called_set.init.bind _) (wpAny_pure (wpAny_bind (wpAny_call (codeAny_call_builtin PySem.F.called_set.init.plain PySem.F.entry_set_init (check_set_init_1 tyS ?_)))))))))
    unfold Builtin.«set.__init__»
    refine wpAny_bind (wpAny_of_eq (m' := pure ()) rfl (wpAny_pure ?_))
    dsimp only
    refine wpAny_bind (wpAny_bind (wpAny_bind (wpAny_typeOf tyS (wpAny_of_eq (m' := pure (Value.type "set")) rfl (wpAny_pure (wpAny_of_eq (m' := pure "set") rfl (wpAny_pure ?_)))))))
    refine wpAny_bind (wpAny_of_eq (m' := pure ()) rfl (wpAny_pure (wpAny_bind (wpAny_pure ?_))))
    refine wpAny_bind (wpAny_bind (wpAny_bind (wpAny_load (Heap.get?_push_size _ rfl) ?_)))
    refine wpAny_of_eq (m' := pure (#[], 0, SetTable.fresh 0 0 (!w.params.followText "set-order"))) (by unfold setObj; cases w.params.followText "set-order" <;> rfl) (wpAny_pure (wpAny_of_eq (m' := pure false) (by cases w.params.followText "set-order" <;> rfl) (wpAny_pure ?_)))
    have tyT : ∀ h tk, (∀ b o, s.heap.get? b = some o → h.get? b = some o) → Shared.TypeIs { s with heap := h, toks := tk } (.ref l) "tuple" := fun h tk K => by
      obtain ⟨o, ho, hr⟩ := ht h K
      exact ⟨o, ho, hr.1⟩
    show wpAny _ _ (Builtin.Frozenset.updateFrom "set.__init__" s.heap.objs.size (.ref l) >>= _) _ _ _
    unfold Builtin.Frozenset.updateFrom
    refine wpAny_bind (wpAny_bind (wpAny_bind (wpAny_isInstance (tyT _ _ h0) PySem.F.sub_tuple_set (wpAny_isInstance (tyT _ _ h0) (b := false) rfl ?_))))
    refine wpAny_bind (wpAny_typeOf (tyT _ _ h0) ?_)
    refine wpAny_bind (wpAny_pyIter_tuple (ht _ h0) (wpAny_bind (wpAny_runValue ?_)))
    have hsz : (s.heap.push (setObj w)).objs.size = s.heap.objs.size + 1 := Heap.size_push ..
    have nli : l ≠ (s.heap.push (setObj w)).objs.size := Nat.ne_of_lt (by rw [hsz]; exact Nat.lt_succ_of_lt hlt)
    have nsi : s.heap.objs.size ≠ (s.heap.push (setObj w)).objs.size := by rw [hsz]; exact Nat.ne_of_lt (Nat.lt_succ_self _)
    refine loop_g (led := !w.params.followText "set-order") (Walks.tuple (prog := prog) (w := w) (A := (A.under (Code.builtin "type.__call__" { pos := [.type "set", .ref l] })).in1.in1) hA (s.heap.push (setObj w)).objs.size l nli its.toArray) ?_ nsi (fun i => ns.getD i 0) ?_ (by simpa using hz) its.toArray.size 0 _ rfl (Nat.zero_le _) ?_ ?_ ?_
    · intro z
      rcases List.mem_cons.mp z with z | z
      · exact nsi z
      · exact absurd (List.mem_singleton.mp z) (Nat.ne_of_gt hlt)
    · intro i v hv
      rw [List.getElem?_toArray] at hv
      exact hi.int_at i v hv
    · exact ⟨⟨_, Heap.get?_push_size _ rfl, rfl, rfl⟩, ht _ fun b o e => Heap.get?_push_of_some _ (h0 b o e)⟩
    · exact (set_first (prog := prog) (w := w) s.heap).keep fun o e => Heap.get?_push_of_some _ e
    · intro s' e1 e2 e3 kp so
      refine wpAny_pure (wpAny_pure (wpAny_pure (wpAny_pure ?_)))
      obtain ⟨h', g', d', t', o'⟩ := s'
      cases e1
      cases e2
      cases e3
      refine q h' t' (fun b o e => kp b o (Nat.ne_of_lt (Heap.lt_size e)) (fun z => ?_) (Heap.get?_push_of_some _ (h0 b o e))) (by simpa using so)
      have hb : b < s.heap.objs.size := Heap.lt_size e
      rw [z, hsz] at hb
      exact absurd hb (Nat.not_lt.mpr (Nat.le_succ _))
  | .ok .next, e => exact e.elim
  | .ok .brk, e => exact e.elim
  | .ok .cont, e => exact e.elim
  | .error v, e => exact e
end
end STb
namespace L2
open PySem PySem.Spec PyProof.Rows STb
theorem fm_nodup (val : Nat → Int) : ∀ i, (firstMet val i).Nodup
  | 0 => List.nodup_nil
  | i + 1 => by
    have ih := fm_nodup val i
    rw [firstMet_succ]
    unfold step_dedup
    split
    · exact ih
    · rename_i h
      refine List.nodup_append.mpr ⟨ih, by simp, fun a ha b hb e => h ?_⟩
      rw [List.mem_singleton.mp hb] at e
      subst e
      exact List.any_eq_true.mpr ⟨_, ha, by simp⟩
theorem perm_cover : ∀ {l2 l1 : List Int}, l2.Nodup → (∀ x ∈ l2, x ∈ l1) → l1.length ≤ l2.length → l1.Perm l2
  | [], l1, _, _, h => by
    have : l1 = [] := List.length_eq_zero_iff.mp (by simpa using h)
    subst this
    exact List.Perm.refl _
  | x :: r, l1, nd, hs, h => by
    have hx : x ∈ l1 := hs x List.mem_cons_self
    have nx : x ∉ r := (List.nodup_cons.mp nd).1
    refine (List.perm_cons_erase hx).trans ((perm_cover (List.nodup_cons.mp nd).2 (fun y hy => ?_) ?_).cons x)
    · exact (List.mem_erase_of_ne (a := y) (b := x) (fun z => nx (by rw [← z]; exact hy))).mpr (hs y (List.mem_cons_of_mem _ hy))
    · rw [List.length_erase_of_mem hx]
      simp only [List.length_cons] at h
      omega
theorem ints_of_el {prog : Program} {w : World} : ∀ {l : List (Int × Value)}, ElemsOf (intKind prog w) l → ∃ ns : List Int, IntsAre (l.map (·.2)) ns ∧ ∀ z, z ∈ ns ↔ ∃ e ∈ l, (intKind prog w).is z e.2 = true
  | [], _ => ⟨[], .nil, fun z => by simp⟩
  | e :: r, h => by
    obtain ⟨ns, h1, h2⟩ := ints_of_el (l := r) h.tail
    obtain ⟨⟨k, hk, _⟩, _⟩ := h.head
    obtain ⟨t, et⟩ := Value.isInt_shape hk
    refine ⟨k :: ns, ?_, fun z => ?_⟩
    · rw [List.map_cons, et]
      exact .cons k t h1
    · rw [List.mem_cons, h2]
      constructor
      · rintro (rfl | ⟨e', he', hz⟩)
        · exact ⟨e, List.mem_cons_self, hk⟩
        · exact ⟨e', List.mem_cons_of_mem _ he', hz⟩
      · rintro ⟨e', he', hz⟩
        rcases List.mem_cons.mp he' with rfl | he'
        · exact .inl ((intKind prog w).inj _ _ _ hz hk)
        · exact .inr ⟨e', he', hz⟩
theorem fm_mem (ns : List Int) (z : Int) : ((firstMet (fun i => ns.getD i 0) ns.length).any fun x => x == z) = true ↔ z ∈ ns := by
  rw [firstMet_any]
  have e : (List.range ns.length).map (fun i => ns.getD i 0) = ns := by
    apply List.ext_getElem
    · simp
    · intro i h1 h2
      simp [h2]
  rw [e, List.any_eq_true]
  exact ⟨fun ⟨x, hx, h⟩ => by rw [← eq_of_beq h]; exact hx, fun h => ⟨z, h, by simp⟩⟩
theorem strict_of {ms : List Int} (h1 : ms.Pairwise (· ≤ ·)) (h2 : ms.Nodup) : ms.Pairwise (· < ·) := by
  rw [List.pairwise_iff_getElem] at h1 ⊢
  intro i j hi hj hij
  have a := h1 i j hi hj hij
  have b : ms[i] ≠ ms[j] := fun z => by have := (List.getElem_inj h2).mp z; omega
  omega
section
open PySem.W PySem.Calls SortT
variable {prog : Program} {w : World} {A : Around} {E : Value → Shared → Prop} {s : Shared}
theorem sorted_setG {a : Addr} {S : Int → Bool} {n : Nat} {Q : Value → Shared → Prop} (hh : A.handled = none) (G : SetG prog w (!w.params.followText "set-order") s.heap a S n) (h64 : n < 64)
    (q : ∀ (s1 : Shared) (h' : Heap) (D : Addr) (ms : List Int) (us : List Value) (c : Nat), s1.gens = s.gens → s1.os = s.os → (∀ b o, s.heap.get? b = some o → s1.heap.get? b = some o) → (∀ b o, s1.heap.get? b = some o → h'.get? b = some o) → s1.heap.objs.size ≤ D → h'.get? D = some (seqObj "list" us.toArray c) → Vals (ms.map V.int) us → ms.Pairwise (· ≤ ·) → (∀ z, z ∈ ms ↔ S z = true) → ms.length = n → Q (.ref D) { s1 with heap := h' }) :
    wpAny (model prog w) A (call (.builtin "sorted") [.ref a]) Q E s := by
  obtain ⟨ob, el, ep, tb, g1, g2, g3, B⟩ := G
  refine Calls.call_function_entry kind_sorted plain_sorted entry_sorted (args_sorted1 _) ?_
  unfold Builtin.«sorted»
  refine wpAny_bind (m := checkCount "sorted" 1 1 _) (wpAny_pure ?_)
  refine wpAny_bind (set_collect (A := A.in1) hh ⟨ob, g1, g2, g3⟩ B.fit B.gt (by have := B.siz; omega) fun s1 acc e1 e2 k1 hg => ?_)
  obtain ⟨l, lp, la⟩ := hg
  obtain ⟨ns, hI, hm⟩ := ints_of_el (B.elm.perm lp)
  have hl : l.length = n := by rw [lp.length_eq, Array.length_toList, B.siz]
  have hvl : acc.toList.length = n := by rw [la, List.length_map, hl]
  rw [← la] at hI
  generalize acc.toList = vs at hI hvl
  refine wpAny_bind (wpAny_newList ?_ (by rw [sizeLine_eq]; omega))
  have hoL : (s1.heap.push (seqObj "list" vs.toArray 0)).get? s1.heap.objs.size = some (seqObj "list" vs.toArray 0) := Heap.get?_push_size _ rfl
  have kp1 : ∀ b o, s1.heap.get? b = some o → (s1.heap.push (seqObj "list" vs.toArray 0)).get? b = some o := fun b o z => Heap.get?_push_of_some _ z
  refine wpAny_bind (wpAny_holding (wpAny_call_entry slot_list_sort ⟨_, hoL, rfl⟩ entry_list_sort (SortT.list_sort (O := intO) (key := fun i => ns.getD i 0) (κ := oneType') hoL (by omega) (fun h2 => asks_ints hI h2) fun out hp => ⟨_, rfl, ?_⟩) (args_list_sort _)))
  refine wpAny_pure ⟨_, rfl, ?_⟩
  obtain ⟨c, hc⟩ := sortedHeap_at (vs := vs) (out := (out.map fun i => vs.getD i Value.none).toArray) hoL
  obtain ⟨ms, pm, pr, rz, pl⟩ := put_ints hI hp
  refine q s1 _ _ ms _ c e1 e2 k1 (fun b o z => ?_) (Nat.le_refl _) hc rz pr (fun z => ?_) (by rw [pl, ← hI.length, hvl])
  · have hb : b < s1.heap.objs.size := Heap.lt_size z
    rw [sortedHeap_old (Nat.ne_of_lt hb) (by rw [Heap.size_push]; exact Nat.lt_succ_of_lt hb)]
    exact kp1 b o z
  · rw [pm.mem_iff, hm z, B.mem z]
    exact ⟨fun ⟨e, he, u⟩ => ⟨e, lp.mem_iff.mp he, u⟩, fun ⟨e, he, u⟩ => ⟨e, lp.mem_iff.mpr he, u⟩⟩
end
section
variable {X : Cx}
def tSortSet (K : PySem.W.Frag) (ta : TA) : TE := fun σ H Q => ta σ H fun vs H1 => ∃ (p : Addr) (ns : List Int), vs = [.ref p] ∧ (SqL K H1 p (ns.map V.int) ∨ SqT K H1 p (ns.map V.int)) ∧ ns.length < 64 ∧ ∀ (l : Addr) (ms : List Int), H1 l = none → ms.Pairwise (· < ·) → (∀ z : Int, z ∈ ms ↔ z ∈ ns) → Q (.ref l) (upd H1 l (.lst (ms.map V.int)))
theorem pe_sortedSet {a : Expr} {ta : TA} {p1 p2 pos1 pos2 : Pos} (hc : X.calm = true) (hgS : Gl X "sorted") (hmS : X.mg "sorted" = none) (hgT : Gl X "set") (hmT : X.mg "set" = none) (ha : PA X [a] ta) (hs : starEach [a] X.env = [(false, eval a X.env)] := by rfl)
    (hs2 : starEach [.Call (.Name "set" p2) [a] [] pos2] X.env = [(false, eval (.Call (.Name "set" p2) [a] [] pos2) X.env)] := by rfl) :
    PE X (.Call (.Name "sorted" p1) [.Call (.Name "set" p2) [a] [] pos2] [] pos1) (tSortSet X.K ta) := by
  intro pins s σ H Q I h
  refine wpAny_Call_Name_kw (ld_blt I hgS hmS (by decide +kernel : bootBuiltins "sorted" = some (.builtin "sorted")) ?_ (by decide) (by decide))
  refine PyProof.Rows.callWith_builtin1 ?_ hs2 rfl
  rw [hs2]
  refine Calls.spliced_cons ?_
  refine Call_ (ld_blt I hgT hmT (by decide +kernel : bootBuiltins "set" = some (.type "set")) (PyProof.Rows.callWith_type1 (thn (ha pos2 pins s σ H _ I h) fun us s1 ⟨vs, H1, I1, r1, q1⟩ => ?_) hs rfl))
  obtain ⟨p, ns, e, hq, h64, q⟩ := q1
  subst e
  obtain ⟨u, rfl, rx⟩ := vals1 r1
  cases rx
  have lh : (firstMet (fun i => ns.getD i 0) ns.length).length ≤ ns.length := firstMet_length_le _ _
  have key : ∀ (h : Heap) (tk : Nat), (∀ b o, s1.heap.get? b = some o → h.get? b = some o) → SetG X.prog X.w (!X.w.params.followText "set-order") h s1.heap.objs.size (fun z => (firstMet (fun i => ns.getD i 0) ns.length).any fun x => x == z) (firstMet (fun i => ns.getD i 0) ns.length).length →
      wpAny (model X.prog X.w) X.A (call (.builtin "sorted") [.ref s1.heap.objs.size]) (EP X pins σ Q) X.xe { s1 with heap := h, toks := tk } := by
    intro h tk K so
    refine sorted_setG (I1.ok.hd hc) so (by omega) fun s2 h' D ms us c e1 e2 k1 k2 hD ho rz pr hm hlen => ?_
    obtain ⟨hp2, g2, d2, t2, o2⟩ := s2
    cases e1
    cases e2
    have kk : ∀ b o, s1.heap.get? b = some o → hp2.get? b = some o := fun b o z => k1 b o (K b o z)
    have I2 : Inv X pins σ H1 { s1 with heap := hp2, gens := s1.gens, drawn := d2, toks := t2 } := I1.call (ch := []) (Un.kept kk) (I1.hok.kept kk) I1.bare fun _ z => nomatch z
    have cov := perm_cover (l2 := firstMet (fun i => ns.getD i 0) ns.length) (l1 := ms) (fm_nodup _ _) (fun x hx => (hm x).mpr (List.any_eq_true.mpr ⟨x, hx, by simp⟩)) (by omega)
    refine ⟨.ref D, _, sorted_fin (t' := t2) I2 hD k2 ho rz ?_, rfl, q D ms (I2.hok.fresh hD) (strict_of pr (cov.nodup_iff.mpr (fm_nodup _ _))) fun z => (hm z).trans (fm_mem ns z)⟩
    have : sizeLine = 16777216 := rfl
    rw [List.length_map]
    omega
  have sb : scanBound = 4096 := rfl
  rcases hq with hq | hq
  · obtain ⟨its, rv, pl, hz⟩ := I1.list hq
    have hi := intsAre_of rv
    have hil := hi.length
    refine mk_list (I1.ok.hd hc) pl.isList hi (by omega) fun h tk K so => ?_
    rw [hil] at so
    exact Calls.spliced_nil (key h tk K so)
  · obtain ⟨its, rv, pl, hz⟩ := I1.tuple hq
    have hi := intsAre_of rv
    have hil := hi.length
    refine mk_tup (I1.ok.hd hc) pl hi (by omega) fun h tk K so => ?_
    rw [hil] at so
    exact Calls.spliced_nil (key h tk K so)
end
end L2
namespace L2
open PySem PyProof.Rows
/-! ### max(.., default = ..) of ints -/
section
variable {prog : Program} {w : World} {A : Around} {s0 : Shared} {I S : Addr} {its : List Value} {itAt : Nat → Heap → Prop}
theorem maxD_loop {R : Result → Shared → Prop} {kw : List (Str × Value)} (M : MinIt prog w A.in1 s0 I its itAt) (bt : Nat → Nat → Bool) (hS : s0.heap.objs.size ≤ S) (hI : s0.heap.objs.size ≤ I) (hSI : S ≠ I)
    (cmp : ∀ (i j : Nat) (vi vj : Value) (h : Heap) (tk : Nat) (Q E : Value → Shared → Prop), Kp s0 h → its[i]? = some vi → its[j]? = some vj → Q (.bool (bt i j)) { s0 with heap := h, toks := tk } → wpAny (model prog w) A.in1 (richCompare .Gt vi vj) Q E { s0 with heap := h, toks := tk })
    (hR : ∀ (v : Value) (h : Heap) (tk : Nat), its[argBest bt (its.length - 1)]? = some v → Kp s0 h → R (.ok (.ret v)) { s0 with heap := h, toks := tk })
    : ∀ (r j : Nat) (h : Heap) (tk : Nat) (vb : Value) (c : Nat), its.length - (j + 1) = r → j + 1 ≤ its.length → Kp s0 h → itAt (j + 1) h → its[argBest bt j]? = some vb →
      h.get? S = some { cls := .type "list", data := .seq #[vb, vb] c } → codeAny (model prog w) A (.builtin "max.loop" { pos := [.ref I, .none, .ref S], kw := kw }) R { s0 with heap := h, toks := tk } := by
  intro r
  induction r with
  | zero =>
    intro j h tk vb c hr hj K hit hv hSo
    refine codeAny_builtin PySem.F.entry_max_loop ?_
    unfold Builtin.«max.loop»
    refine wpAny_bind (wpAny_seqItems hSo rfl ?_)
    dsimp only
    refine wpAny_bind (wpAny_tryCatch (M.fin (j + 1) h tk _ _ K hit (List.getElem?_eq_none (by omega)) fun h' k => ?_))
    have hS' := k S _ hSI hSo
    refine wpAny_bind (wpAny_updateSeq hS' rfl (wpAny_bind (wpAny_letGo (wpAny_pure ?_))) (by show 2 ≤ sizeLine; decide) (by show 0 ≤ sizeLine + 1; decide))
    refine hR vb _ tk ?_ ((K.but hI k).upd hS)
    rw [show its.length - 1 = j by omega]; exact hv
  | succ r ih =>
    intro j h tk vb c hr hj K hit hv hSo
    obtain ⟨x, hx⟩ : ∃ x, its[j + 1]? = some x := ⟨_, List.getElem?_eq_getElem (by omega)⟩
    refine codeAny_builtin PySem.F.entry_max_loop ?_
    unfold Builtin.«max.loop»
    refine wpAny_bind (wpAny_seqItems hSo rfl ?_)
    dsimp only
    refine wpAny_bind (wpAny_tryCatch (M.next (j + 1) h tk x _ _ K hit hx fun h' hit' k => ?_))
    have K' : Kp s0 h' := K.but hI fun b o hb e => by rw [k b hb]; exact e
    have hS' : h'.get? S = some { cls := .type "list", data := .seq #[vb, vb] c } := by rw [k S hSI]; exact hSo
    refine wpAny_bind (wpAny_pure ?_)
    refine wpAny_bind (wpAny_tryCatch (wpAny_holding (wpAny_bind (cmp (j + 1) (argBest bt j) x vb h' tk _ _ K' hx hv ?_))))
    refine wpAny_bind (wpAny_holding (wpAny_truthy_bool (wpAny_bind (wpAny_letGo (wpAny_pure ?_)))))
    have eb : argBest bt (j + 1) = if bt (j + 1) (argBest bt j) = true then j + 1 else argBest bt j := argBest.eq_2 bt j
    cases e : bt (j + 1) (argBest bt j) with
    | true =>
      rw [if_pos e] at eb
      refine wpAny_bind (wpAny_updateSeq hS' rfl (wpAny_bind (wpAny_letGo (wpAny_pure ⟨rfl, ?_⟩))) (by show 2 ≤ sizeLine; decide) (by show 2 ≤ sizeLine + 1; decide))
      exact ih (j + 1) _ tk x c (by omega) (by omega) (K'.upd hS) (M.stay _ _ _ hit' (Heap.get?_update_ne _ _ _ _ (Ne.symm hSI))) (by rw [eb]; exact hx) (Heap.get?_update_self _ hS' rfl)
    | false =>
      rw [e, if_neg (by decide)] at eb
      refine wpAny_bind (wpAny_letGo (wpAny_pure ⟨rfl, ?_⟩))
      exact ih (j + 1) h' tk vb c (by omega) (by omega) K' hit' (by rw [eb]; exact hv) hS'
theorem maxD_first {R : Result → Shared → Prop} {d : Value} (M : MinIt prog w A.in1 s0 I its itAt) (bt : Nat → Nat → Bool) (hS : s0.heap.objs.size ≤ S) (hI : s0.heap.objs.size ≤ I) (hSI : S ≠ I)
    (cmp : ∀ (i j : Nat) (vi vj : Value) (h : Heap) (tk : Nat) (Q E : Value → Shared → Prop), Kp s0 h → its[i]? = some vi → its[j]? = some vj → Q (.bool (bt i j)) { s0 with heap := h, toks := tk } → wpAny (model prog w) A.in1 (richCompare .Gt vi vj) Q E { s0 with heap := h, toks := tk })
    (hR : ∀ (v : Value) (h : Heap) (tk : Nat), its[argBest bt (its.length - 1)]? = some v → Kp s0 h → R (.ok (.ret v)) { s0 with heap := h, toks := tk })
    (h0 : its = [] → ∀ (h : Heap) (tk : Nat), Kp s0 h → R (.ok (.ret d)) { s0 with heap := h, toks := tk })
    (h : Heap) (tk : Nat) (c : Nat) (K : Kp s0 h) (hit : itAt 0 h) (hSo : h.get? S = some { cls := .type "list", data := .seq #[] c }) :
    codeAny (model prog w) A (.builtin "max.loop" { pos := [.ref I, .none, .ref S], kw := [(Str.ofString "default", d)] }) R { s0 with heap := h, toks := tk } := by
  refine codeAny_builtin PySem.F.entry_max_loop ?_
  unfold Builtin.«max.loop»
  refine wpAny_bind (wpAny_seqItems hSo rfl ?_)
  dsimp only
  cases e : its with
  | nil =>
    subst e
    refine wpAny_bind (wpAny_tryCatch (M.fin 0 h tk _ _ K hit rfl fun h' k => ?_))
    exact wpAny_bind (wpAny_rule (wpAny_pure (h0 rfl h' tk (K.but hI k))))
  | cons x xs =>
    have hx : its[0]? = some x := by rw [e]; rfl
    refine wpAny_bind (wpAny_tryCatch (M.next 0 h tk x _ _ K hit hx fun h' hit' k => ?_))
    have K' : Kp s0 h' := K.but hI fun b o hb e => by rw [k b hb]; exact e
    have hS' : h'.get? S = some { cls := .type "list", data := .seq #[] c } := by rw [k S hSI]; exact hSo
    refine wpAny_bind (wpAny_pure ?_)
    refine wpAny_bind (wpAny_updateSeq hS' rfl (wpAny_pure ⟨rfl, ?_⟩) (by show 0 ≤ sizeLine; decide) (by show 2 ≤ sizeLine + 1; decide))
    refine maxD_loop M bt hS hI hSI cmp hR (its.length - 1) 0 _ tk x (c + 1) rfl (by rw [e]; simp) (K'.upd hS) (M.stay _ _ _ hit' (Heap.get?_update_ne _ _ _ _ (Ne.symm hSI))) hx (Heap.get?_update_self _ hS' rfl)
end
theorem call_maxD {prog : Program} {w : World} {A : Around} {s : Shared} {p : Addr} {its : List Value} {d : Value} {Q E : Value → Shared → Prop} (hA : A.handled = none) (bt : Nat → Nat → Bool) (hp : s.heap.IsList p its.toArray ∨ s.heap.IsTuple p its.toArray)
    (cmp : ∀ (i j : Nat) (vi vj : Value) (h : Heap) (tk : Nat) (Q E : Value → Shared → Prop), Kp s h → its[i]? = some vi → its[j]? = some vj → Q (.bool (bt i j)) { s with heap := h, toks := tk } → wpAny (model prog w) A.in1 (richCompare .Gt vi vj) Q E { s with heap := h, toks := tk })
    (hR : ∀ (v : Value) (h : Heap) (tk : Nat), its[argBest bt (its.length - 1)]? = some v → Kp s h → Q v { s with heap := h, toks := tk })
    (h0 : its = [] → ∀ (h : Heap) (tk : Nat), Kp s h → Q d { s with heap := h, toks := tk }) :
    wpAny (model prog w) A (call (.builtin "max") [.ref p] [(Str.ofString "default", d)]) Q E s := by
  refine wpAny_call (codeAny_call_builtin PySem.F.plain_max PySem.F.entry_max (wpAny_of_eq (show checkBuiltinCall "max" { pos := [.ref p], kw := [(Str.ofString "default", d)] } = pure () from rfl) (wpAny_pure ?_)))
  unfold Builtin.max
  refine wpAny_bind (wpAny_of_eq (show Builtin.Builtins.bindParams "max" ["key", "default"] 0 { kw := [(Str.ofString "default", d)] } = pure [none, some d] from rfl) (wpAny_pure ?_))
  dsimp only
  refine wpAny_bind (wpAny_pure ?_)
  have kp0 : ∀ (o1 o2 : Obj), Kp s ((s.heap.push o1).push o2) := fun o1 o2 b o e => Heap.get?_push_of_some _ (Heap.get?_push_of_some _ e)
  rcases hp with hp | hp
  · refine wpAny_bind (wpAny_pyIter_list hp (wpAny_bind (wpAny_newList (wpAny_pure ⟨rfl, ?_⟩) (by show 0 ≤ sizeLine; decide))))
    have hSe : (s.heap.push { cls := .type "list_iterator", data := .fields #[.ref p, .int 0 0] }).objs.size = s.heap.objs.size + 1 := Heap.size_push ..
    rw [hSe]
    refine maxD_first (s0 := s) (I := s.heap.objs.size) (S := s.heap.objs.size + 1) (itAt := fun j h => h.IsListIter s.heap.objs.size p j) ⟨fun j h h' a e => ?_, fun j h tk v Q E K hit hv q => ?_, fun j h tk Q E K hit hv q => ?_⟩ bt (Nat.le_succ _) (Nat.le_refl _) (Nat.succ_ne_self _) cmp hR h0 _ s.toks 0 (kp0 _ _) ?_ ?_
    · obtain ⟨o, ho, hc⟩ := a
      exact ⟨o, by rw [e]; exact ho, hc⟩
    · obtain ⟨o, ho, hc⟩ := hp
      exact wpAny_pyNext_list_item hit ⟨o, K _ _ ho, hc⟩ (by rw [List.getElem?_toArray]; exact hv) fun h' a b => q h' a fun c hc => b.2 c hc
    · obtain ⟨o, ho, hc⟩ := hp
      exact wpAny_pyNext_list_end hA hit ⟨o, K _ _ ho, hc⟩ (by rw [List.getElem?_toArray]; exact hv) fun h' b => q h' b
    · exact ⟨_, Heap.get?_push_of_some _ (Heap.get?_push_size _ rfl), rfl, rfl⟩
    · rw [← hSe]; exact Heap.get?_push_size _ rfl
  · refine wpAny_bind (wpAny_pyIter_tuple hp (wpAny_bind (wpAny_newList (wpAny_pure ⟨rfl, ?_⟩) (by show 0 ≤ sizeLine; decide))))
    have hSe : (s.heap.push { cls := .type "tuple_iterator", data := .fields #[.ref p, .int 0 0] }).objs.size = s.heap.objs.size + 1 := Heap.size_push ..
    rw [hSe]
    refine maxD_first (s0 := s) (I := s.heap.objs.size) (S := s.heap.objs.size + 1) (itAt := fun j h => h.IsTupleIter s.heap.objs.size p j) ⟨fun j h h' a e => ?_, fun j h tk v Q E K hit hv q => ?_, fun j h tk Q E K hit hv q => ?_⟩ bt (Nat.le_succ _) (Nat.le_refl _) (Nat.succ_ne_self _) cmp hR h0 _ s.toks 0 (kp0 _ _) ?_ ?_
    · obtain ⟨o, ho, hc⟩ := a
      exact ⟨o, by rw [e]; exact ho, hc⟩
    · obtain ⟨o, ho, hc⟩ := hp
      exact wpAny_pyNext_tuple_item hit ⟨o, K _ _ ho, hc⟩ (by rw [List.getElem?_toArray]; exact hv) fun h' a b => q h' a fun c hc => b.2 c hc
    · obtain ⟨o, ho, hc⟩ := hp
      exact wpAny_pyNext_tuple_end hA hit ⟨o, K _ _ ho, hc⟩ (by rw [List.getElem?_toArray]; exact hv) fun h' b => q h' b
    · exact ⟨_, Heap.get?_push_of_some _ (Heap.get?_push_size _ rfl), rfl, rfl⟩
    · rw [← hSe]; exact Heap.get?_push_size _ rfl
theorem argBest_gt (f : Nat → Int) (k : Nat) : argBest (fun i j => decide (f i > f j)) k ≤ k ∧ ∀ j, j ≤ k → f j ≤ f (argBest (fun i j => decide (f i > f j)) k) := by
  have e : (fun i j => decide (f i > f j)) = fun i j => decide (-f i < -f j) := by
    funext i j
    rw [Bool.eq_iff_iff, decide_eq_true_iff, decide_eq_true_iff]
    omega
  rw [e]
  obtain ⟨h1, h2⟩ := argBest_lt (fun i => -f i) k
  refine ⟨h1, fun j hj => ?_⟩
  have := h2 j hj
  omega
section
variable {X : Cx}
/-- max(p, default = d): p a list of ints -/
def rMaxD (K : PySem.W.Frag) (x dv : V) (H : Hp) (Q : VK) : Prop := ∃ (p : Addr) (ns : List Int), x = .ref p ∧ (SqL K H p (ns.map V.int) ∨ SqT K H p (ns.map V.int)) ∧ (ns = [] → Q dv H) ∧ (∀ n ∈ ns, (∀ m ∈ ns, m ≤ n) → Q (.int n) H)
def tMaxD (K : PySem.W.Frag) (t : TA) (td : TE) : TE := fun σ H Q => t σ H fun vs H1 => ∃ x, vs = [x] ∧ td σ H1 fun dv H2 => rMaxD K x dv H2 Q
theorem pe_maxD {e de : Expr} {t : TA} {td : TE} {pos np kpos : Pos} (hc : X.calm = true) (hu : X.A.units + 1 < cLine) (hg : Gl X "max") (hm : X.mg "max" = none) (he : PA X [e] t) (hd : PE X de td)
    (hs1 : backTo pos (starEach [e] X.env) = (false, eval e X.env) :: backTo pos (starEach [] X.env) := by rfl) (hs2 : (backTo pos (starEach [e] X.env)).any (·.1) = false := by rfl) :
    PE X (.Call (.Name "max" np) [e] [⟨some "default", de, kpos⟩] pos) (tMaxD X.K t td) := by
  intro pins s σ H Q I h
  refine wpAny_Call_Name_kw (ld_blt I hg hm (by decide +kernel : bootBuiltins "max" = some (.builtin "max")) ?_)
  refine PyProof.Rows.callWith_kw (thn (he pos pins s σ H _ I h) fun us s1 ⟨vs, H1, I1, r, q1⟩ => ?_) hs1 hs2
  obtain ⟨x, rfl, q1⟩ := q1
  obtain ⟨u, rfl, rx⟩ := vals1 r
  show wpAny _ _ (evalAll ((do let v ← eval de X.env; standAt pos; pure v) :: [])) _ _ s1
  refine wpAny_evalAll_cons (wpAny_bind (thn (hd pins s1 σ H1 _ I1 q1) fun ud s2 ⟨dv, H2, I2, rd, q2⟩ => wpAny_bind (wpAny_standAt (wpAny_pure (wpAny_evalAll_nil ?_)))))
  show wpAny _ _ (call (.builtin "max") [u] [(Str.ofString "default", ud)]) _ _ s2
  obtain ⟨p, ns, rfl, hp, q0, q⟩ := q2
  obtain ⟨ys, ey⟩ : ∃ ys, ys = ns.map V.int := ⟨_, rfl⟩
  rw [← ey] at hp
  cases rx
  obtain ⟨its, rv, hpp⟩ : ∃ its : List Value, Vals ys its ∧ (s2.heap.IsList p its.toArray ∨ s2.heap.IsTuple p its.toArray) := by
    rcases hp with hp | hp
    · obtain ⟨its, r', pl, _⟩ := I2.list hp
      exact ⟨its, r', .inl pl.isList⟩
    · obtain ⟨its, r', pl, _⟩ := I2.tuple hp
      exact ⟨its, r', .inr pl⟩
  have hlen := rv.length
  have e0 : its = [] → ns = [] := fun z => by
    have : ys = [] := List.length_eq_zero_iff.mp (by rw [hlen, z]; rfl)
    rw [ey] at this
    exact List.map_eq_nil_iff.mp this
  subst ey
  have hI : IntsAre its ns := intsAre_of rv
  have hl := hI.length
  have look : ∀ (i : Nat) (v : Value), its[i]? = some v → ∃ t, v = .int (ns.getD i 0) t := fun i v hv => by
    have hi : i < ns.length := by have := (List.getElem?_eq_some_iff.mp hv).1; omega
    obtain ⟨u, hu, ru⟩ := rv.get (i := i) (x := .int ns[i]) (by simp [hi])
    rw [hv] at hu; cases hu
    obtain ⟨t, rfl⟩ := (show ∃ t, v = Value.int ns[i] t from ru)
    exact ⟨t, by rw [List.getD_eq_getElem?_getD, List.getElem?_eq_getElem hi]; rfl⟩
  refine call_maxD (I2.ok.hd hc) (fun i j => decide (ns.getD i 0 > ns.getD j 0)) hpp (fun i j vi vj h tk Q E K hi hj q => ?_) (fun v h tk hv K => ?_) (fun z h tk K => ⟨dv, H2, I2.kept K, rd, q0 (e0 z)⟩)
  · obtain ⟨t1, rfl⟩ := look i vi hi
    obtain ⟨t2, rfl⟩ := look j vj hj
    exact PyProof.Rows.gt_int q
  · obtain ⟨b1, b2⟩ := argBest_gt (fun i => ns.getD i 0) (its.length - 1)
    have hlt := (List.getElem?_eq_some_iff.mp hv).1
    generalize eb : argBest (fun i j => decide (ns.getD i 0 > ns.getD j 0)) (its.length - 1) = bi at hv hlt b1 b2
    obtain ⟨t, rfl⟩ := look bi v hv
    have hy : bi < ns.length := by omega
    refine ⟨.int (ns.getD bi 0), H2, I2.kept K, ⟨t, rfl⟩, q _ ?_ fun m hm => ?_⟩
    · rw [List.getD_eq_getElem?_getD, List.getElem?_eq_getElem hy]; exact List.getElem_mem hy
    · obtain ⟨j, hj, ej⟩ := List.getElem_of_mem hm
      have := b2 j (by omega)
      have g1 : ns.getD j 0 = m := by rw [List.getD_eq_getElem?_getD, List.getElem?_eq_getElem hj, ej]; rfl
      rw [g1] at this
      exact this
end
end L2
namespace L2
open PySem PySem.Spec PyProof.Rows
section
variable {X : Cx}
/-- lists of tuples of ints, the same on either side, by != -/
theorem op_neLT (hu : X.A.units + 1 < cLine) : OpR X (compareOp .NotEq) (fun x y H Q => ∃ (a b : Addr) (xs ys : List V) (ms : List (List Int)), x = .ref a ∧ y = .ref b ∧ SqL X.K H a xs ∧ SqL X.K H b ys ∧ TupsAre H xs ms ∧ TupsAre H ys ms ∧ Q (.bl false) H) := by
  intro pins s σ H x y v u Q I rx ry h
  obtain ⟨a, b, xs, ys, ms, rfl, rfl, ha, hb, T1, T2, q⟩ := h
  cases rx
  cases ry
  obtain ⟨its, r, pl, hz⟩ := I.list ha
  obtain ⟨its2, r2, pl2, hz2⟩ := I.list hb
  have l1 := r.length
  have l2 := r2.length
  have m1 := T1.length
  have m2 := T2.length
  refine PySem.EqBoolInt.of_rcne (SeqAt.RcNeAt.lists (e := fun _ => true) pl.isList pl2.isList (by rw [List.size_toArray, List.size_toArray]; omega) (by omega) (fun j ja jb => ?_)) ⟨.bl _, H, I, rfl, ?_⟩
  · rw [List.size_toArray] at ja jb
    have hx : j < xs.length := by omega
    have hy : j < ys.length := by omega
    obtain ⟨p, k, e1, e2, e3, _⟩ := T1.get (i := j) (x := xs[j]) (by simp [hx])
    obtain ⟨p', k', e1', e2', e3', _⟩ := T2.get (i := j) (x := ys[j]) (by simp [hy])
    rw [e2] at e2'
    cases e2'
    obtain ⟨w1, hw1, rw1⟩ := r.get (i := j) (x := xs[j]) (by simp [hx])
    obtain ⟨w2, hw2, rw2⟩ := r2.get (i := j) (x := ys[j]) (by simp [hy])
    rw [e1] at rw1
    rw [e1'] at rw2
    cases (show w1 = Value.ref p from rw1)
    cases (show w2 = Value.ref p' from rw2)
    have g1 : its.toArray[j]'(by rw [List.size_toArray]; exact ja) = .ref p := by
      rw [List.getElem?_eq_getElem ja] at hw1
      simpa using Option.some.inj hw1
    have g2 : its2.toArray[j]'(by rw [List.size_toArray]; exact jb) = .ref p' := by
      rw [List.getElem?_eq_getElem jb] at hw2
      simpa using Option.some.inj hw2
    rw [g1, g2]
    by_cases c : p = p'
    · subst c
      exact SeqAt.EqAt.same _
    · obtain ⟨us, rv1, t1, _⟩ := I.tuple (SqT.of (K := X.K) e3)
      obtain ⟨ws, rv2, t2, _⟩ := I.tuple (SqT.of (K := X.K) e3')
      have i1 := intsAre_of rv1
      have i2 := intsAre_of rv2
      have h := SeqAt.RcAt.tuples (A := X.A.in1) (e := fun j => k.getD j 0 == k.getD j 0) t1 t2 (show X.A.units + 1 < cLine from hu) (fun j a b => eqAts i1 i2 j a b)
      rw [List.size_toArray, List.size_toArray, i1.length, i2.length, ints_all, decide_eq_true rfl] at h
      exact SeqAt.EqAt.of_refs c h
  · have : ((List.range its.toArray.size).all fun _ => true) = true := List.all_eq_true.mpr fun _ _ => rfl
    rw [this]
    exact q
end
end L2
namespace L2
open PySem PySem.Spec PyProof.Rows
theorem list_extend_tup (l : Addr) (items : Array Value) (n : Nat) (b : Addr) (o : Obj) (items2 : Array Value) (n2 : Nat) (hlong : ¬ (!items.isEmpty && Builtin.List.listTooLong (items.size + items2.size)) = true) (hs1 : items.size ≤ sizeLine) (hs2 : items.size + items2.size ≤ sizeLine + 1) :
    Meets (Builtin.«list.extend» ⟨[.ref l, .ref b], []⟩) (fun _ R s => s.heap.get? l = some { cls := .type "list", dict := none, data := .seq items n, slots := #[] } ∧ (s.heap.get? b = some o ∧ o.cls = .type "tuple" ∧ o.data = .seq items2 n2) ∧ R (.ok (.ret Value.none)) { s with heap := s.heap.update l (Obj.mapSeq fun x => x ++ items2), toks := s.toks }) :=
  .of_wp fun prog w A R s h => by
    obtain ⟨hl, ⟨hb, hc, hd⟩, h⟩ := h
    show wpAny _ A.in1 (Builtin.List.listExtendWith (.ref l) (.ref b) .none) _ _ s
    unfold Builtin.List.listExtendWith
    refine wpAny_bind (wpAny_typeOf ⟨o, hb, hc⟩ ?_)
    have h1 : (Builtin.List.listSameRef (.ref l) (.ref b) || Value.type "tuple" == Value.type "list" || Value.type "tuple" == Value.type "tuple") = true := by simp
    simp only [h1, if_true]
    refine wpAny_bind ?_
    unfold Builtin.List.listItems
    refine wpAny_bind (wpAny_seqItems hb hd (wpAny_pure ?_))
    refine wpAny_bind ?_
    refine wpAny_bind (wpAny_seqItems hl rfl (wpAny_pure ?_))
    rw [if_neg hlong]
    show wpAny _ A.in1 (updateSeq l (· ++ items2) >>= fun _ => ret .none) _ _ s
    refine wpAny_bind (wpAny_updateSeq hl rfl ?_ (by omega) (by rw [Array.size_append]; exact hs2))
    exact wpAny_pure ⟨_, rfl, h⟩
section
variable {X : Cx}
/-- l.extend(t), t a tuple -/
def rExtendT : V → List V → Hp → VK → Prop := fun x vs H Q => ∃ l b xs zs, x = .ref l ∧ vs = [.ref b] ∧ H l = some (.lst xs) ∧ H b = some (.tup zs) ∧ xs.length + zs.length ≤ sizeLine ∧ Q .non (upd H l (.lst (xs ++ zs)))
theorem mt_extendT : MtM X "list.extend" rExtendT := by
  intro pins s σ H x vs v us Q I rx rv h
  obtain ⟨l, b, xs, zs, rfl, rfl, hH, hB, hz, q⟩ := h
  cases rx
  obtain ⟨u, rfl, ru⟩ := rv.one
  cases ru
  obtain ⟨z, its, n, r, hl, e⟩ := I.lstM hH
  obtain ⟨z2, its2, r2, o2, ho2, hc2, n2, hd2⟩ := I.hok b _ hB
  have hl2 := r2.length
  have hsz : its.toArray.size + its2.toArray.size ≤ sizeLine := by rw [List.size_toArray, List.size_toArray]; omega
  have hlong : ¬ (!its.toArray.isEmpty && Builtin.List.listTooLong (its.toArray.size + its2.toArray.size)) = true := by
    rw [notLongL hsz, Bool.and_false]
    exact Bool.false_ne_true
  refine call_meets PySem.F.slot_list_extend ⟨_, e, rfl⟩ PySem.F.entry_list_extend (PySem.F.args_list_extend_2 _ _)
    (list_extend_tup l its.toArray n b o2 its2.toArray n2 hlong (by rw [List.size_toArray]; omega) (by omega)) ⟨e, ⟨ho2, hc2, hd2⟩, ?_⟩
  refine ⟨.non, _, I.lset (its' := its ++ its2) hH e (by simp) (r.append r2) ?_, rfl, q⟩
  rw [List.length_append]
  omega
end
end L2
namespace K38
open PySem L2 WM
def top (i : Nat) : Stmt := PySem.Challenge.pw_labelways_k38_plans_by_kind.main.body.getD i (.Pass ⟨0, 0, 0, 0⟩)
abbrev sTape : Stmt := top 14
abbrev sDraw : Stmt := top 15
abbrev sNum : Stmt := top 1
abbrev sTof : Stmt := top 2
abbrev sRis : Stmt := top 3
abbrev sIp : Stmt := top 6
abbrev sPw : Stmt := top 7
abbrev sPp : Stmt := top 8
abbrev sCh : Stmt := top 9
abbrev sCo : Stmt := top 10
abbrev sPo : Stmt := top 11
abbrev sDe : Stmt := top 12
abbrev sOrder : Stmt := top 16
abbrev sBent : Stmt := top 17
abbrev sPn : Stmt := top 18
abbrev sLq : Stmt := top 19
abbrev sLp : Stmt := top 20
abbrev sLf : Stmt := top 21
abbrev sLc : Stmt := top 22
abbrev sRight : Stmt := top 23
abbrev sLd : Stmt := top 24
abbrev sPr : Stmt := top 25
abbrev sLaw : Stmt := top 26
/-! ### the tape -/
/-- the tape at t: a list of ints, a place of at most N, a rest -/
def TapeP (H : Hp) (t p : Addr) (N : Nat) : Prop := ∃ (ns : List Int) (spot rest : Int), H t = some (.lst [.ref p, .int spot, .int rest]) ∧ H p = some (.lst (ns.map V.int)) ∧ p ≠ t ∧ 0 ≤ spot ∧ spot ≤ N ∧ 0 ≤ rest ∧ ns.length ≤ 63
def TapeAt (H : Hp) (t : Addr) (N : Nat) : Prop := ∃ p : Addr, TapeP H t p N
theorem TapeAt.mono {H : Hp} {t : Addr} {N M : Nat} (h : TapeAt H t N) (l : N ≤ M) : TapeAt H t M := by
  obtain ⟨p, ns, spot, rest, a, b, c, d, e, f⟩ := h
  exact ⟨p, ns, spot, rest, a, b, c, d, by omega, f⟩
/-- all that was tracked but t is as it was -/
def Sm (t : Addr) (H H' : Hp) : Prop := ∀ b o, b ≠ t → H b = some o → H' b = some o
theorem Sm.trans {t : Addr} {H H1 H2 : Hp} (a : Sm t H H1) (b : Sm t H1 H2) : Sm t H H2 := fun c o n e => b c o n (a c o n e)
theorem Sm.of {t : Addr} {H H' : Hp} (h : Same H H') : Sm t H H' := fun b o _ e => h b o e
theorem Sm.laid {t l : Addr} {H : Hp} {o : HO} (h : H l = none) : Sm t H (upd H l o) := fun b u _ e => by rw [upd_ne (ne_of_none e h)]; exact e
theorem Sm.chg {t l : Addr} {H H' : Hp} {o : HO} (s : Sm t H H') (h : H l = none) : Sm t H (upd H' l o) := fun b u n e => by rw [upd_ne (ne_of_none e h)]; exact s b u n e
theorem same_laid {l : Addr} {H : Hp} {o : HO} (h : H l = none) : Same H (upd H l o) := fun b u e => by rw [upd_ne (ne_of_none e h)]; exact e
theorem same_chg {l : Addr} {H H' : Hp} {o : HO} (s : Same H H') (h : H l = none) : Same H (upd H' l o) := fun b u e => by rw [upd_ne (ne_of_none e h)]; exact s b u e
theorem TapeAt.keep {H H' : Hp} {t : Addr} {N : Nat} (h : TapeAt H t N) (k : Same H H') : TapeAt H' t N := by
  obtain ⟨p, ns, spot, rest, a, b, c⟩ := h
  exact ⟨p, ns, spot, rest, k _ _ a, k _ _ b, c⟩
theorem TapeAt.laid {H : Hp} {t l : Addr} {N : Nat} {o : HO} (h : TapeAt H t N) (hl : H l = none) : TapeAt (upd H l o) t N := h.keep (same_laid hl)
theorem TapeAt.ne {H : Hp} {t b : Addr} {N : Nat} (h : TapeAt H t N) (hb : H b = none) : b ≠ t := by
  obtain ⟨p, ns, spot, rest, a, _⟩ := h
  exact (ne_of_none a hb).symm
theorem TapeP.keepF {H H' : Hp} {t p : Addr} {N M : Nat} (h : TapeP H t p N) (k1 : ∀ o, H t = some o → H' t = some o) (k2 : ∀ o, H p = some o → H' p = some o) (l : N ≤ M) : TapeP H' t p M := by
  obtain ⟨ns, spot, rest, a, b, c, d, e, f⟩ := h
  exact ⟨ns, spot, rest, k1 _ a, k2 _ b, c, d, by omega, f⟩
def spDrawP : Sp := fun vs H Q _ => ∃ (t p : Addr) (N : Nat) (many : Int), vs = [.ref t, .int many] ∧ TapeP H t p N ∧ N < 1000000 ∧ 0 < many ∧ many < 1000000 ∧
  ∀ (r : Int) (H' : Hp), 0 ≤ r → r < many → TapeP H' t p (N + 1) → (∀ b, b ≠ t → H' b = H b) → Q (.int r) H'
def spDraw : Sp := fun vs H Q _ => ∃ (t : Addr) (N : Nat) (many : Int), vs = [.ref t, .int many] ∧ TapeAt H t N ∧ N < 1000000 ∧ 0 < many ∧ many < 1000000 ∧
  ∀ (r : Int) (H' : Hp), 0 ≤ r → r < many → TapeAt H' t (N + 1) → (∀ b, b ≠ t → H' b = H b) → Q (.int r) H'
def spTape (K : PySem.W.Frag) : Sp := fun vs H Q _ => ∃ (a : Addr) (ns : List Int), vs = [.ref a] ∧ SqL K H a (ns.map V.int) ∧ ns.length ≤ 63 ∧ ∀ (t : Addr) (H' : Hp), H t = none → TapeAt H' t 0 → Same H H' → Q (.ref t) H'
section
variable {P : Program} {w : World} {K : PySem.W.Frag} {mg : Str → Option Value} {base : Heap}
theorem scTape : FnScope ["_law_script"] ["_law_script"] (defScope sTape) := ⟨rfl, rfl, rfl, by decide +kernel, rfl, by decide +kernel, by decide +kernel⟩
theorem ok_tape {f : Addr} {fd : FuncData} (F : Fun K "_law_tape" "_law_tape" sTape f fd) : FnOk P w K mg base CX0 1 f fd ["_law_script"] (spTape K) := by
  refine F.ok scTape (fun vs H Q E h => ?_) (fun cdv A outer s H vs Q E hr h => ?_)
  · obtain ⟨a, ns, rfl, _⟩ := h
    rfl
  · obtain ⟨a, ns, rfl, hS, hl, k⟩ := h
    refine ⟨_, pss_one (ps_ret (pe_lst (pa_cons (pe_slice sl_list (pv 0) po_none (po_some pe_int)) (pa_int (pa_int pa_nil))))), ?_⟩
    refine ⟨_, rfl, _, rfl, a, _, rfl, hS, fun p hp => ⟨by show 3 ≤ sizeLine; decide, fun t ht => ?_⟩⟩
    have npt : p ≠ t := fun e => by rw [e, upd_same] at ht; cases ht
    have e1 : cutV (ns.map V.int) none (some 63) = (ns.take 63).map V.int := by
      unfold cutV
      rw [HT.sIx_none, List.drop_zero, Nat.sub_zero, List.length_map, show (63 : Int) = ((63 : Nat) : Int) from rfl, HT.sIx_nat, List.map_take]
      rw [show min 63 ns.length = ns.length by omega, List.take_of_length_le (by rw [List.length_map]; exact Nat.le_refl _), List.take_of_length_le (by rw [List.length_map]; exact hl)]
    have ht0 : H t = none := by rw [upd_ne npt.symm] at ht; exact ht
    refine k t _ ht0 ⟨p, ns.take 63, 0, 0, upd_same, ?_, npt, Int.le_refl _, Int.le_refl _, Int.le_refl _, by rw [List.length_take]; omega⟩ ?_
    · rw [upd_ne npt, upd_same, e1]
    · exact same_chg (same_laid hp) ht0
theorem scDraw : FnScope ["_law_tape_here", "_law_many", "_law_found", "_law_spot", "_law_cell", "_law_mixed"] ["_law_tape_here", "_law_many"] (defScope sDraw) := ⟨rfl, rfl, rfl, by decide +kernel, rfl, by decide +kernel, by decide +kernel⟩
theorem mod_in {a m : Int} (h : 0 < m) : 0 ≤ a % m ∧ a % m < m := ⟨Int.emod_nonneg _ (by omega), Int.emod_lt_of_pos _ h⟩
theorem ok_drawP {f : Addr} {fd : FuncData} (F : Fun K "_law_draw" "_law_draw" sDraw f fd) (mLen : mg "len" = none) : FnOk P w K mg base CX0 1 f fd ["_law_tape_here", "_law_many"] spDrawP := by
  refine F.ok scDraw (fun vs H Q E h => ?_) (fun cdv A outer s H vs Q E hr h => ?_)
  · obtain ⟨t, p, N, many, rfl, _⟩ := h
    rfl
  · obtain ⟨t, p, N, many, rfl, T, hN, hm0, hm1, k⟩ := h
    obtain ⟨ns, spot, rest, ht, hp, hne, hs0, hs1, hr0, hl⟩ := T
    refine ⟨_, pss_cons (ps_if (pt_cmpR op_gt (pe_ix ix_list (pv 0) pe_int (fun _ _ => rfl)) pe_int (nomark _))
        (pss_cons (ps_set (i := 2) scDraw.nd rfl (Or.inl rfl) (pe_op op_mod (pe_ix ix_list (pv 0) pe_int (fun _ _ => rfl)) (pv 1)))
        (pss_cons (ps_asg (pe_op op_fdiv (pe_ix ix_list (pv 0) pe_int (fun _ _ => rfl)) (pv 1)) (pg_sub (pv 0) pe_int set_list))
        (pss_one (ps_ret (pv 2))))) pss_nil)
      (pss_cons (ps_set (i := 3) scDraw.nd rfl (Or.inl rfl) (pe_ix ix_list (pv 0) pe_int (fun _ _ => rfl)))
      (pss_cons (ps_asg (pe_op op_add (pv 3) pe_int) (pg_sub (pv 0) pe_int set_list))
      (pss_cons (ps_set (i := 4) scDraw.nd rfl (Or.inl rfl) (pe_ifExp (pt_cmpR op_gt (pe_callB call_len_seq (by rfl) mLen PySem.boot_len (pa_cons (pe_ix ix_list (pv 0) pe_int (fun _ _ => rfl)) pa_nil)) pe_int (nomark _))
        (pe_ix ix_list (pe_ix ix_list (pv 0) pe_int (fun _ _ => rfl)) (pe_op op_mod (pv 3) (pe_callB call_len_seq (by rfl) mLen PySem.boot_len (pa_cons (pe_ix ix_list (pv 0) pe_int (fun _ _ => rfl)) pa_nil))) (fun _ _ => rfl)) pe_int))
      (pss_cons (ps_if (pw_and (pt_cmpR op_ge (pv 4) (pe_op op_pow pe_int pe_int) (nomark _)) (pw_and1 (pt_cmpR op_lt (pv 3) (pe_callB call_len_seq (by rfl) mLen PySem.boot_len (pa_cons (pe_ix ix_list (pv 0) pe_int (fun _ _ => rfl)) pa_nil)) (nomark _)))).pt
        (pss_cons (ps_asg (pe_op op_fdiv (pv 4) (pv 1)) (pg_sub (pv 0) pe_int set_list)) (pss_one (ps_ret (pe_op op_mod (pv 4) (pv 1))))) pss_nil)
      (pss_cons (ps_set (i := 5) scDraw.nd rfl (Or.inl rfl) (pe_op op_mod (pe_op op_mul (pe_op op_add (pe_op op_mod (pv 4) pe_int) pe_int) (pe_op op_add pe_int (pe_op op_mul pe_int (pv 3)))) pe_int))
      (pss_one (ps_ret (pe_op op_mod (pe_op op_fdiv (pe_op op_mod (pe_op op_mul (pe_op op_add (pv 5) (pe_op op_mul (pe_op op_mul pe_int (pv 3)) (pv 3))) pe_int) pe_int) pe_int) (pv 1))))))))), ?_⟩
    have cd : CDiv 0 many := ⟨hm0, by omega⟩
    -- if tape[2] > 0
    refine ⟨_, rfl, t, _, _, _, rfl, rfl, SqL.of ht, rfl, _, _, rfl, rfl, _, rfl, ?_⟩
    refine ite2 (fun hc => ?_) (fun hc => ?_)
    · have hpos : 0 < rest := of_decide_eq_true hc
      refine ⟨_, rfl, t, _, _, _, rfl, rfl, SqL.of ht, rfl, _, rfl, _, _, rfl, rfl, hm0, ?_⟩
      refine ⟨_, rfl, t, _, _, _, rfl, rfl, SqL.of ht, rfl, _, rfl, _, _, rfl, rfl, cd, ?_⟩
      refine ⟨_, rfl, t, _, _, 2, rfl, rfl, ht, rfl, ?_⟩
      refine ⟨_, rfl, ?_⟩
      refine k _ _ (mod_in hm0).1 (mod_in hm0).2 ⟨ns, spot, rest / many, upd_same, by rw [upd_ne hne]; exact hp, hne, hs0, by omega, Int.ediv_nonneg hr0 (by omega), hl⟩ fun b hb => upd_ne hb
    · -- spot = tape[1]; tape[1] = spot + 1
      refine ⟨_, rfl, t, _, _, _, rfl, rfl, SqL.of ht, rfl, ?_⟩
      refine ⟨_, rfl, _, _, rfl, rfl, _, rfl, t, _, _, 1, rfl, rfl, ht, rfl, ?_⟩
      have ht1 : (upd H t (.lst [.ref p, .int (spot + 1), .int rest])) t = some (.lst [.ref p, .int (spot + 1), .int rest]) := upd_same
      have hp1 : (upd H t (.lst [.ref p, .int (spot + 1), .int rest])) p = some (.lst (ns.map V.int)) := by rw [upd_ne hne]; exact hp
      have ex : 0 < ((ns.map V.int).length : Int) → ∃ c, atI (ns.map V.int) (spot % ((ns.map V.int).length : Int)) = some (.int c) := fun h => by
        have hb := mod_in (a := spot) h
        obtain ⟨j, hj⟩ := Int.eq_ofNat_of_zero_le hb.1
        have hlt : j < ns.length := by
          have h2 := hb.2
          rw [hj, List.length_map] at h2
          omega
        refine ⟨ns[j], ?_⟩
        rw [hj]
        exact atI_nat (by simp [hlt])
      -- cell
      refine ⟨_, rfl, t, _, _, _, rfl, rfl, SqL.of ht1, rfl, p, _, rfl, .inl (SqL.of hp1), _, _, rfl, rfl, _, rfl, ?_⟩
      refine ite2 (fun h2 => ?a) (fun h2 => ?b)
      case' a =>
        obtain ⟨c, hc⟩ := ex (of_decide_eq_true h2)
        refine ⟨_, rfl, t, _, _, _, rfl, rfl, SqL.of ht1, rfl, _, rfl, _, rfl, t, _, _, _, rfl, rfl, SqL.of ht1, rfl, p, _, rfl, .inl (SqL.of hp1), _, _, rfl, rfl, of_decide_eq_true h2, p, _, _, _, rfl, rfl, SqL.of hp1, hc, ?_⟩
      all_goals
        refine ⟨_, rfl, _, _, rfl, rfl, ⟨by decide, by decide, by decide⟩, _, _, rfl, rfl, _, rfl, ?_⟩
        refine ite2 (fun h3 => ?_) (fun h3 => ?_)
      all_goals first
        | (refine ⟨_, rfl, _, rfl, t, _, _, _, rfl, rfl, SqL.of ht1, rfl, p, _, rfl, .inl (SqL.of hp1), _, _, rfl, rfl, _, rfl, ?_⟩; refine ite2 (fun h4 => ?_) (fun h4 => ?_))
        | refine iteF ?_
      all_goals first
        | (refine ⟨_, rfl, _, rfl, _, _, rfl, rfl, ⟨hm0, by omega⟩, _, rfl, t, _, _, 2, rfl, rfl, ht1, rfl, ?_⟩
           refine ⟨_, rfl, _, rfl, _, _, rfl, rfl, hm0, ?_⟩
           refine k _ _ (mod_in hm0).1 (mod_in hm0).2 ⟨ns, spot + 1, _, upd_same, by rw [upd_ne hne]; exact hp1, hne, by omega, by omega, Int.ediv_nonneg (Int.le_trans (show (0 : Int) ≤ 10 ^ (18 : Int).toNat by decide) (of_decide_eq_true h3)) (by omega), hl⟩ fun b hb => by rw [upd_ne hb, upd_ne hb])
        | (refine ⟨_, rfl, _, _, rfl, rfl, (by dsimp only; decide), _, _, rfl, rfl, _, rfl, _, _, rfl, rfl, .inl ⟨by decide, by decide⟩, _, _, rfl, rfl, _, _, rfl, rfl, .inl ⟨by omega, by omega⟩, _, _, rfl, rfl, (by dsimp only; decide), ?_⟩
           refine ⟨_, rfl, _, rfl, _, _, rfl, rfl, .inl ⟨by decide, by decide⟩, _, rfl, _, _, rfl, rfl, .inr ⟨by omega, by omega⟩, _, _, rfl, rfl, _, _, rfl, rfl, .inr ⟨by decide, by decide⟩, _, _, rfl, rfl, (by dsimp only; decide), _, _, rfl, rfl, ⟨by decide, by decide⟩, _, rfl, _, _, rfl, rfl, hm0, ?_⟩
           refine k _ _ (mod_in hm0).1 (mod_in hm0).2 ⟨ns, spot + 1, rest, ht1, hp1, hne, by omega, by omega, hr0, hl⟩ fun b hb => upd_ne hb)
theorem ok_draw {f : Addr} {fd : FuncData} (F : Fun K "_law_draw" "_law_draw" sDraw f fd) (mLen : mg "len" = none) : FnOk P w K mg base CX0 1 f fd ["_law_tape_here", "_law_many"] spDraw :=
  (ok_drawP F mLen).imp fun vs H Q E ⟨t, N, many, e, ⟨p, T⟩, a, b, c, k⟩ => ⟨t, p, N, many, e, T, a, b, c, fun r H' h0 h1 T' he => k r H' h0 h1 ⟨p, T'⟩ he⟩
end
theorem eqV_int (a b : Int) : eqV (.int a) (.int b) = (a == b) := rfl
theorem inV_ints {z : Int} : ∀ {l : List Int}, inV (.int z) (l.map V.int) = decide (z ∈ l)
  | [] => rfl
  | x :: r => by
    show (eqV (.int x) (.int z) || inV (.int z) (r.map V.int)) = _
    rw [inV_ints (l := r), eqV_int]
    by_cases h : x = z
    · subst h; simp
    · have h' : (x == z) = false := by simpa using h
      rw [h', Bool.false_or]
      simp [Ne.symm h]
theorem flat_ints : ∀ (l : List Int), (l.map V.int).all flatV = true
  | [] => rfl
  | _ :: r => by rw [List.map_cons, List.all_cons, flat_ints r]; rfl
theorem dec_int' {i j : Int} : decide (V.int i = V.int j) = decide (i = j) := by
  by_cases h : i = j
  · subst h; simp
  · rw [decide_eq_false h, decide_eq_false fun e => h (by injection e)]
theorem ifT {c : Bool} {p q : Prop} (h : c = true) (hp : p) : (if c = true then p else q) := by rw [if_pos h]; exact hp
theorem ifF {c : Bool} {p q : Prop} (h : c = false) (hq : q) : (if c = true then p else q) := by rw [if_neg (by simp [h])]; exact hq
section
open PySem.Spec PyProof.Rows
/-- small enough to be shown: its weight, its depth -/
structure Fn (n p : Nat) (d : PyData) : Prop where
  wt : d.weight ≤ n
  dp : d.depth ≤ p
  cl : d.canLay0 = true
  sh : d.intsShort 13 = true
  sw : d.showable = true
theorem Fn.mono {n p n' p' : Nat} {d : PyData} (h : Fn n p d) (hn : n ≤ n') (hp : p ≤ p') : Fn n' p' d := ⟨Nat.le_trans h.wt hn, Nat.le_trans h.dp hp, h.cl, h.sh, h.sw⟩
theorem fn_bool (b : Bool) : Fn 0 0 (.bool b) := ⟨Nat.le_refl _, Nat.le_refl _, rfl, rfl, rfl⟩
theorem log2_small {i : Int} (h : i.natAbs < 1000000000) : i.natAbs.log2 < 30 := by
  by_cases h0 : i.natAbs = 0
  · rw [h0]; decide
  · exact (Nat.log2_lt h0).mpr (by omega)
theorem fn_int {i : Int} (h : i.natAbs < 1000000000) : Fn 30 0 (.int i) := by
  have hl := log2_small h
  refine ⟨?_, Nat.le_refl _, rfl, ?_, ?_⟩
  · simp only [PyData.weight]
    split <;> omega
  · simp only [PyData.intsShort, PyData.shown]
    refine decide_eq_true ?_
    have e := int_text_length_le10 (a := i) (k := 9) (by decide) (by simpa using h)
    have e2 : (Str.ofString (toString i)).length = (toString i).length := by
      rw [Str.ofString_eq_toList]
      show ((toString i).toList.map Char.toNat).toArray.size = _
      rw [List.size_toArray, List.length_map, String.length_toList]
    show (Str.ofString (toString i)).length ≤ 13
    omega
  · simp only [PyData.showable]
    exact decide_eq_true (by omega)
theorem fn_all {n p : Nat} : ∀ {ds : List PyData}, (∀ d ∈ ds, Fn n p d) → PyData.weightAll ds ≤ ds.length * (n + 1) ∧ PyData.depthAll ds ≤ p ∧ PyData.canLayAll0 ds = true ∧ PyData.intsShortAll 13 ds = true ∧ PyData.showableAll ds = true
  | [], _ => ⟨by simp [PyData.weightAll], by simp [PyData.depthAll], by simp [PyData.canLayAll0], by simp [PyData.intsShortAll], by simp [PyData.showableAll]⟩
  | d :: ds, h => by
    obtain ⟨a, b, c, e, f⟩ := fn_all (ds := ds) fun x hx => h x (List.mem_cons_of_mem _ hx)
    have g := h d List.mem_cons_self
    refine ⟨?_, ?_, ?_, ?_, ?_⟩
    · simp only [PyData.weightAll, List.length_cons]
      have := g.wt
      rw [Nat.add_mul]
      omega
    · simp only [PyData.depthAll]
      have := g.dp
      omega
    · simp only [PyData.canLayAll0, g.cl, c, Bool.and_self]
    · simp only [PyData.intsShortAll, g.sh, e, Bool.and_self]
    · simp only [PyData.showableAll, g.sw, f, Bool.and_self]
theorem fn_tup {n p L : Nat} {ds : List PyData} (h : ∀ d ∈ ds, Fn n p d) (hl : ds.length ≤ L) : Fn (L * (n + 1)) (p + 1) (.tuple ds) := by
  obtain ⟨a, b, c, e, f⟩ := fn_all h
  refine ⟨?_, ?_, ?_, ?_, ?_⟩
  · simp only [PyData.weight]
    exact Nat.le_trans a (Nat.mul_le_mul_right _ hl)
  · simp only [PyData.depth]; omega
  · simp only [PyData.canLay0]; exact c
  · simp only [PyData.intsShort]; exact e
  · simp only [PyData.showable]; exact f
theorem Fn.len {n p : Nat} {d : PyData} (h : Fn n p d) (hn : n ≤ 1048576) (hp : p ≤ 60) : d.shown.length ≤ sizeLine ∧ d.hasDict = false := by
  have hl : PyData.layable0 d = true := by
    show (PyData.canLay0 d && decide (PyData.depth d ≤ 64) && decide (PyData.weight d ≤ 2 ^ 20)) = true
    rw [h.cl, decide_eq_true (show PyData.depth d ≤ 64 by have := h.dp; omega), decide_eq_true (show PyData.weight d ≤ 2 ^ 20 by have := h.wt; omega)]
    rfl
  have e := shown_le13 hl h.sh
  have : sizeLine = 16777216 := rfl
  exact ⟨by omega, PyData.hasDict_of_layable hl⟩
section
variable {X : Cx}
theorem call_repr {k : Nat} (hr : Room k X.A) : CallR X (.builtin "repr") (fun xs H Q => ∃ x d, xs = [x] ∧ Shows H x d ∧ Fn 1048576 60 d ∧ Q (.str d.shown) H) := by
  intro pins s σ H xs us Q I r h
  obtain ⟨x, d, rfl, sh, f, q⟩ := h
  obtain ⟨u, rfl, rx⟩ := vals1 r
  obtain ⟨hz, hnd⟩ := f.len (Nat.le_refl _) (by decide)
  have hu := hr.units
  cases sh with
  | non =>
    cases (show u = Value.none from rx)
    exact PySem.P.repr_of_none ⟨.str _, H, I.tok _, ⟨_, rfl⟩, by simpa only [PyData.shown] using q⟩
  | bl b =>
    cases (show u = Value.bool b from rx)
    exact PySem.P.repr_of_bool ⟨.str _, H, I.tok _, ⟨_, rfl⟩, by simpa only [PyData.shown] using q⟩
  | int i =>
    obtain ⟨t, rfl⟩ := rx
    exact PySem.P.repr_of_int (by have := f.sw; simpa only [PyData.showable, decide_eq_true_eq] using this) ⟨.str _, H, I.tok _, ⟨_, rfl⟩, by simpa only [PyData.shown] using q⟩
  | str z =>
    obtain ⟨t, rfl⟩ := rx
    exact PySem.P.repr_of_str ⟨.str _, H, I.tok _, ⟨_, rfl⟩, by simpa only [PyData.shown] using q⟩ (by simpa only [PyData.shown] using hz)
  | tup e al =>
    cases (show u = Value.ref _ from rx)
    obtain ⟨as, rd⟩ := Shows.reads I.hok (.tup e al) (u := .ref _) rfl
    exact repr_of_reads' rd f.sw (PyData.noDict_hsm hnd) hr.gd (by have := f.dp; omega) (fun _ _ e => e) (fun h' u tk hk => ⟨.str _, H, I.kept hk, ⟨u, rfl⟩, q⟩) hz
  | lst e al =>
    cases (show u = Value.ref _ from rx)
    obtain ⟨as, rd⟩ := Shows.reads I.hok (.lst e al) (u := .ref _) rfl
    exact repr_of_reads' rd f.sw (PyData.noDict_hsm hnd) hr.gd (by have := f.dp; omega) (fun _ _ e => e) (fun h' u tk hk => ⟨.str _, H, I.kept hk, ⟨u, rfl⟩, q⟩) hz
end
end
/-! ### plain things of any kind: is_number, is_within, is_tuple_of -/
def numD : PyData → Bool
  | .int _ => true
  | _ => false
def withinD (d : PyData) (a b : Int) : Bool := match d with
  | .int i => decide (a ≤ i) && decide (i ≤ b)
  | _ => false
def tupD (d : PyData) : Bool := match d with
  | .tuple _ => true
  | _ => false
def tupN (d : PyData) (n : Int) : Bool := match d with
  | .tuple ds => decide ((ds.length : Int) = n)
  | _ => false
theorem shAll_len {H : Hp} {xs : List V} {ds : List PyData} (h : ShowsAll H xs ds) : xs.length = ds.length := by
  induction xs generalizing ds with
  | nil => cases h; rfl
  | cons x xs ih =>
    cases h with
    | cons a b => rw [List.length_cons, List.length_cons, ih b]
theorem shAll_get {H : Hp} {xs : List V} {ds : List PyData} {i : Nat} {d : PyData} (h : ShowsAll H xs ds) (e : ds[i]? = some d) : ∃ x, xs[i]? = some x ∧ Shows H x d := by
  induction xs generalizing ds i with
  | nil => cases h; simp at e
  | cons x xs ih =>
    cases h with
    | cons a b =>
      cases i with
      | zero =>
        simp at e
        subst e
        exact ⟨x, rfl, a⟩
      | succ i => exact ih b (by simpa using e)
/-- what is shown stays where the heap only grows -/
theorem shows_keep {H H' : Hp} (k : Same H H') {v : V} {d : PyData} (s : Shows H v d) : Shows H' v d :=
  Shows.rec (motive_1 := fun v d _ => Shows H' v d) (motive_2 := fun xs ds _ => ShowsAll H' xs ds) .non (fun b => .bl b) (fun i => .int i) (fun x => .str x) (fun e _ ih => .tup (k _ _ e) ih) (fun e _ ih => .lst (k _ _ e) ih) .nil (fun _ _ i1 i2 => .cons i1 i2) s
/-- what isinstance tells of a plain thing -/
theorem isi_of {K : PySem.W.Frag} {H : Hp} {v : V} {d : PyData} (s : Shows H v d) : ∃ t bi bb bt : _, TyOf K H v t ∧ PySem.W.kitOne K t (.type "int") = some bi ∧ PySem.W.kitOne K t (.type "bool") = some bb ∧ PySem.W.kitOne K t (.type "tuple") = some bt ∧ (bi && !bb) = numD d ∧ bt = tupD d ∧ (numD d = true → ∃ i, v = .int i ∧ d = .int i) ∧ (tupD d = true → ∃ a xs ds, v = .ref a ∧ H a = some (.tup xs) ∧ d = .tuple ds ∧ ShowsAll H xs ds) := by
  cases s with
  | non => exact ⟨_, _, _, _, .non, rfl, rfl, rfl, rfl, rfl, (fun z => by cases z), (fun z => by cases z)⟩
  | bl b => exact ⟨_, _, _, _, .bl b, rfl, rfl, rfl, rfl, rfl, (fun z => by cases z), (fun z => by cases z)⟩
  | int i => exact ⟨_, _, _, _, .int i, rfl, rfl, rfl, rfl, rfl, (fun z => ⟨i, rfl, rfl⟩), (fun z => by cases z)⟩
  | str x => exact ⟨_, _, _, _, .str x, rfl, rfl, rfl, rfl, rfl, (fun z => by cases z), (fun z => by cases z)⟩
  | tup e al => exact ⟨_, _, _, _, .tup e, rfl, rfl, rfl, rfl, rfl, (fun z => by cases z), (fun z => ⟨_, _, _, rfl, e, rfl, al⟩)⟩
  | lst e al => exact ⟨_, _, _, _, .lst e, rfl, rfl, rfl, rfl, rfl, (fun z => by cases z), (fun z => by cases z)⟩
def spNum : Sp := fun vs H Q _ => ∃ (v : V) (d : PyData), vs = [v] ∧ Shows H v d ∧ Q (.bl (numD d)) H
def spWi : Sp := fun vs H Q _ => ∃ (v : V) (d : PyData) (a b : Int), vs = [v, .int a, .int b] ∧ Shows H v d ∧ Q (.bl (withinD d a b)) H
def spTof : Sp := fun vs H Q _ => ∃ (v : V) (d : PyData) (n : Int), vs = [v, .int n] ∧ Shows H v d ∧ Q (.bl (tupN d n)) H
section
variable {P : Program} {w : World} {K : PySem.W.Frag} {mg : Str → Option Value} {base : Heap}
theorem scNum : FnScope ["thing"] ["thing"] (defScope sNum) := ⟨rfl, rfl, rfl, by decide +kernel, rfl, by decide +kernel, by decide +kernel⟩
theorem ok_num {f : Addr} {fd' : FuncData} (F : Fun K "is_number" "is_number" sNum f fd') (mIsi : mg "isinstance" = none) (mInt : mg "int" = none) (mBool : mg "bool" = none) : FnOk P w K mg base CX0 1 f fd' ["thing"] spNum := by
  refine F.ok scNum (fun vs H Q E h => ?_) (fun cdv A outer s H vs Q E hr h => ?_)
  · obtain ⟨v, d, rfl, _⟩ := h
    rfl
  · obtain ⟨v, d, rfl, S, k⟩ := h
    obtain ⟨t, bi, bb, bt, ty, e1, e2, _, e4, _⟩ := isi_of (K := K) S
    refine ⟨_, pss_one (ps_ret (pe_and (pe_callB call_isinst (by rfl) mIsi (by decide +kernel) (pa_cons (pv 0) (pa_cons (pe_tyN (T := "int") (by rfl) mInt (by decide +kernel)) pa_nil)))
      (pe_one (pe_not (pe_callB call_isinst (by rfl) mIsi (by decide +kernel) (pa_cons (pv 0) (pa_cons (pe_tyN (T := "bool") (by rfl) mBool (by decide +kernel)) pa_nil))))))), ?_⟩
    refine ⟨_, rfl, _, _, t, bi, rfl, ty, e1, bi, rfl, ?_⟩
    rw [← e4] at k
    cases bi with
    | false => exact iteF k
    | true => exact iteT ⟨_, rfl, _, _, t, bb, rfl, ty, e2, bb, rfl, k⟩
theorem scTof : FnScope ["thing", "count"] ["thing", "count"] (defScope sTof) := ⟨rfl, rfl, rfl, by decide +kernel, rfl, by decide +kernel, by decide +kernel⟩
theorem ok_tof {f : Addr} {fd' : FuncData} (F : Fun K "is_tuple_of" "is_tuple_of" sTof f fd') (mIsi : mg "isinstance" = none) (mTuple : mg "tuple" = none) (mLen : mg "len" = none) : FnOk P w K mg base CX0 1 f fd' ["thing", "count"] spTof := by
  refine F.ok scTof (fun vs H Q E h => ?_) (fun cdv A outer s H vs Q E hr h => ?_)
  · obtain ⟨v, d, n, rfl, _⟩ := h
    rfl
  · obtain ⟨v, d, n, rfl, S, k⟩ := h
    obtain ⟨t, bi, bb, bt, ty, _, _, e3, _, e5, _, ht⟩ := isi_of (K := K) S
    refine ⟨_, pss_one (ps_ret (pe_and (pe_callB call_isinst (by rfl) mIsi (by decide +kernel) (pa_cons (pv 0) (pa_cons (pe_tyN (T := "tuple") (by rfl) mTuple (by decide +kernel)) pa_nil)))
      (pe_one (pe_cmpR op_eq (pe_callB call_len_seq (by rfl) mLen PySem.boot_len (pa_cons (pv 0) pa_nil)) (pv 1) (nomark _))))), ?_⟩
    refine ⟨_, rfl, _, _, t, bt, rfl, ty, e3, bt, rfl, ?_⟩
    rw [e5]
    cases hn : tupD d with
    | false =>
      refine iteF ?_
      have : tupN d n = false := by
        cases d <;> first | rfl | cases hn
      rw [this] at k
      exact k
    | true =>
      refine iteT ?_
      obtain ⟨a, xs, ds, rfl, ha, rfl, al⟩ := ht hn
      refine ⟨_, rfl, a, xs, rfl, .inr (SqT.of ha), _, rfl, rfl, ?_⟩
      rw [dec_int', shAll_len al]
      exact k
end
/-! ### how large plain things are; the tape apart from them -/
theorem wt_append : ∀ (xs ys : List PyData), PyData.weightAll (xs ++ ys) = PyData.weightAll xs + PyData.weightAll ys
  | [], ys => by simp [PyData.weightAll]
  | x :: xs, ys => by
    rw [List.cons_append]
    simp only [PyData.weightAll]
    rw [wt_append xs ys]
    omega
theorem wt_take (n : Nat) (xs : List PyData) : PyData.weightAll (xs.take n) ≤ PyData.weightAll xs := by
  have := wt_append (xs.take n) (xs.drop n)
  rw [List.take_append_drop] at this
  omega
theorem wt_drop (n : Nat) (xs : List PyData) : PyData.weightAll (xs.drop n) ≤ PyData.weightAll xs := by
  have := wt_append (xs.take n) (xs.drop n)
  rw [List.take_append_drop] at this
  omega
theorem wt_reverse : ∀ (xs : List PyData), PyData.weightAll xs.reverse = PyData.weightAll xs
  | [] => rfl
  | x :: xs => by
    rw [List.reverse_cons, wt_append, wt_reverse xs]
    simp only [PyData.weightAll]
    omega
/-- shown and small: weights, depth, ints -/
structure Pl (k n p : Nat) (d : PyData) : Prop where
  fn : Fn n p d
  ib : ∀ i, d = .int i → i.natAbs ≤ k
theorem flags_all : ∀ {ds : List PyData}, PyData.canLayAll0 ds = true → PyData.intsShortAll 13 ds = true → PyData.showableAll ds = true → ∀ d ∈ ds, d.canLay0 = true ∧ d.intsShort 13 = true ∧ d.showable = true
  | [], _, _, _, d, hd => by simp at hd
  | x :: xs, h1, h2, h3, d, hd => by
    simp only [PyData.canLayAll0, PyData.intsShortAll, PyData.showableAll, Bool.and_eq_true] at h1 h2 h3
    rcases List.mem_cons.mp hd with rfl | hd
    · exact ⟨h1.1, h2.1, h3.1⟩
    · exact flags_all h1.2 h2.2 h3.2 d hd
theorem wt_mem : ∀ {ds : List PyData} {d : PyData}, d ∈ ds → d.weight + 1 ≤ PyData.weightAll ds
  | x :: xs, d, hd => by
    simp only [PyData.weightAll]
    rcases List.mem_cons.mp hd with rfl | hd
    · omega
    · have := wt_mem hd; omega
theorem dp_mem : ∀ {ds : List PyData} {d : PyData}, d ∈ ds → d.depth ≤ PyData.depthAll ds
  | x :: xs, d, hd => by
    simp only [PyData.depthAll]
    rcases List.mem_cons.mp hd with rfl | hd
    · omega
    · have := dp_mem hd; omega
theorem fn_elem {n p : Nat} {ds : List PyData} (h : Fn n (p + 1) (.tuple ds)) {d : PyData} (hd : d ∈ ds) : Fn n p d := by
  obtain ⟨a, b, c, e, f⟩ := h
  simp only [PyData.weight] at a
  simp only [PyData.depth] at b
  simp only [PyData.canLay0] at c
  simp only [PyData.intsShort] at e
  simp only [PyData.showable] at f
  obtain ⟨f1, f2, f3⟩ := flags_all c e f d hd
  have := wt_mem hd
  have := dp_mem hd
  exact ⟨by omega, by omega, f1, f2, f3⟩
theorem all_flags : ∀ {ds : List PyData} {p : Nat}, (∀ d ∈ ds, ∃ n, Fn n p d) → PyData.depthAll ds ≤ p ∧ PyData.canLayAll0 ds = true ∧ PyData.intsShortAll 13 ds = true ∧ PyData.showableAll ds = true
  | [], p, _ => ⟨by simp [PyData.depthAll], by simp [PyData.canLayAll0], by simp [PyData.intsShortAll], by simp [PyData.showableAll]⟩
  | d :: ds, p, h => by
    obtain ⟨b, c, e, f⟩ := all_flags (ds := ds) (p := p) fun x hx => h x (List.mem_cons_of_mem _ hx)
    obtain ⟨n, g⟩ := h d List.mem_cons_self
    refine ⟨?_, ?_, ?_, ?_⟩
    · simp only [PyData.depthAll]; have := g.dp; omega
    · simp only [PyData.canLayAll0, g.cl, c, Bool.and_self]
    · simp only [PyData.intsShortAll, g.sh, e, Bool.and_self]
    · simp only [PyData.showableAll, g.sw, f, Bool.and_self]
theorem fn_mkT {w p : Nat} {ds : List PyData} (h : ∀ d ∈ ds, ∃ n, Fn n p d) (hw : PyData.weightAll ds ≤ w) : Fn w (p + 1) (.tuple ds) := by
  obtain ⟨b, c, e, f⟩ := all_flags h
  exact ⟨by simp only [PyData.weight]; exact hw, by simp only [PyData.depth]; omega, by simp only [PyData.canLay0]; exact c, by simp only [PyData.intsShort]; exact e, by simp only [PyData.showable]; exact f⟩
theorem fn_mkL {w p : Nat} {ds : List PyData} (h : ∀ d ∈ ds, ∃ n, Fn n p d) (hw : PyData.weightAll ds ≤ w) : Fn w (p + 1) (.list ds) := by
  obtain ⟨b, c, e, f⟩ := all_flags h
  exact ⟨by simp only [PyData.weight]; exact hw, by simp only [PyData.depth]; omega, by simp only [PyData.canLay0]; exact c, by simp only [PyData.intsShort]; exact e, by simp only [PyData.showable]; exact f⟩
/-- the heap without the tape -/
def hid (t : Addr) (H : Hp) : Hp := fun b => if b = t then none else H b
theorem hid_get {t b : Addr} {H : Hp} {o : HO} (h : hid t H b = some o) : b ≠ t ∧ H b = some o := by
  unfold hid at h
  by_cases e : b = t
  · rw [if_pos e] at h; cases h
  · rw [if_neg e] at h; exact ⟨e, h⟩
theorem hid_of {t b : Addr} {H : Hp} {o : HO} (n : b ≠ t) (h : H b = some o) : hid t H b = some o := by
  unfold hid
  rw [if_neg n]; exact h
theorem hid_same (t : Addr) (H : Hp) : Same (hid t H) H := fun b o e => (hid_get e).2
theorem hid_sm {t : Addr} {H H' : Hp} (s : Sm t H H') : Same (hid t H) (hid t H') := fun b o e => by
  obtain ⟨n, h⟩ := hid_get e
  exact hid_of n (s b o n h)
/-! ### values by what they show, apart from the tape -/
def Sh (t : Addr) (H : Hp) (v : V) (d : PyData) : Prop := Shows (hid t H) v d
def ShAll (t : Addr) (H : Hp) (vs : List V) (ds : List PyData) : Prop := ShowsAll (hid t H) vs ds
theorem shAll_keep {H H' : Hp} (k : Same H H') : ∀ {vs : List V} {ds : List PyData}, ShowsAll H vs ds → ShowsAll H' vs ds := by
  intro vs
  induction vs with
  | nil => intro ds h; cases h; exact .nil
  | cons v vs ih =>
    intro ds h
    cases h with
    | cons a b => exact .cons (shows_keep k a) (ih b)
theorem hid_mono {t : Addr} {H H' : Hp} (s : Same H H') : Same (hid t H) (hid t H') := hid_sm (Sm.of s)
theorem Sh.same {t : Addr} {H H' : Hp} {v : V} {d : PyData} (h : Sh t H v d) (s : Same H H') : Sh t H' v d := shows_keep (hid_mono s) h
theorem Sh.sm {t : Addr} {H H' : Hp} {v : V} {d : PyData} (h : Sh t H v d) (s : Sm t H H') : Sh t H' v d := shows_keep (hid_sm s) h
theorem Sh.shows {t : Addr} {H : Hp} {v : V} {d : PyData} (h : Sh t H v d) : Shows H v d := shows_keep (hid_same t H) h
theorem ShAll.same {t : Addr} {H H' : Hp} {v : List V} {d : List PyData} (h : ShAll t H v d) (s : Same H H') : ShAll t H' v d := shAll_keep (hid_mono s) h
/-- there is a tape -/
def HasT (t : Addr) (H : Hp) : Prop := ∃ o, H t = some o
theorem HasT.ne {t p : Addr} {H : Hp} (h : HasT t H) (hp : H p = none) : p ≠ t := by
  obtain ⟨o, e⟩ := h
  exact (ne_of_none e hp).symm
theorem HasT.same {t : Addr} {H H' : Hp} (h : HasT t H) (s : Same H H') : HasT t H' := by
  obtain ⟨o, e⟩ := h
  exact ⟨o, s _ _ e⟩
theorem sh_tup {t p : Addr} {H : Hp} {vs : List V} {ds : List PyData} (h : HasT t H) (a : ShAll t H vs ds) (hp : H p = none) : Sh t (upd H p (.tup vs)) (.ref p) (.tuple ds) :=
  .tup (hid_of (h.ne hp) upd_same) (ShAll.same a (same_laid hp))
theorem sh_lst {t p : Addr} {H : Hp} {vs : List V} {ds : List PyData} (h : HasT t H) (a : ShAll t H vs ds) (hp : H p = none) : Sh t (upd H p (.lst vs)) (.ref p) (.list ds) :=
  .lst (hid_of (h.ne hp) upd_same) (ShAll.same a (same_laid hp))
section
variable {X : Cx} {t : Addr} {pre : St → Hp → Prop}
def tD (t : Addr) (pre : St → Hp → Prop) (d : St → PyData) : TE := fun σ H Q => pre σ H ∧ ∀ v H', Same H H' → Sh t H' v (d σ) → Q v H'
def tDs (t : Addr) (pre : St → Hp → Prop) (ds : St → List PyData) : TA := fun σ H Q => pre σ H ∧ ∀ vs H', Same H H' → ShAll t H' vs (ds σ) → Q vs H'
/-- what is known stays, and there is a tape -/
structure Pre (t : Addr) (pre : St → Hp → Prop) : Prop where
  keep : ∀ σ H H', pre σ H → Same H H' → pre σ H'
  has : ∀ σ H, pre σ H → HasT t H
theorem pe_as {e : Expr} {te te' : TE} (h : PE X e te) (m : ∀ σ H Q, te' σ H Q → te σ H Q) : PE X e te' := fun pins s σ H Q I q => h pins s σ H Q I (m σ H Q q)
theorem pa_as {e : List Expr} {te te' : TA} (h : PA X e te) (m : ∀ σ H Q, te' σ H Q → te σ H Q) : PA X e te' := fun pos pins s σ H Q I q => h pos pins s σ H Q I (m σ H Q q)
theorem ped_non {j pos} : PE X (.Constant .none j pos) (tD t pre fun _ => .none) := pe_as pe_non fun σ H Q q => q.2 _ H (Same.refl _) .non
theorem ped_bl {b j pos} : PE X (.Constant (.bool b) j pos) (tD t pre fun _ => .bool b) := pe_as pe_bl fun σ H Q q => q.2 _ H (Same.refl _) (.bl b)
theorem ped_int {i j pos} : PE X (.Constant (.int i) j pos) (tD t pre fun _ => .int i) := pe_as pe_int fun σ H Q q => q.2 _ H (Same.refl _) (.int i)
theorem ped_str {x j pos} : PE X (.Constant (.str x) j pos) (tD t pre fun _ => .str x) := pe_as pe_str fun σ H Q q => q.2 _ H (Same.refl _) (.str x)
theorem pad_nil : PA X [] (tDs t pre fun _ => []) := pa_as pa_nil fun σ H Q q => q.2 [] H (Same.refl _) .nil
theorem pad_cons {e : Expr} {es : List Expr} {d : St → PyData} {ds : St → List PyData} (hP : Pre t pre) (h : PE X e (tD t pre d)) (hs : PA X es (tDs t pre ds)) (hst : starEach (e :: es) X.env = (false, eval e X.env) :: starEach es X.env := by rfl) : PA X (e :: es) (tDs t pre fun σ => d σ :: ds σ) :=
  pa_as (pa_cons h hs hst) fun σ H Q q => ⟨q.1, fun v H1 s1 h1 => ⟨hP.keep _ _ _ q.1 s1, fun vs H2 s2 h2 => q.2 (v :: vs) H2 (s1.trans s2) (.cons (Sh.same h1 s2) h2)⟩⟩
theorem ped_tup {x1 pos} {es : List Expr} {ds : St → List PyData} (hP : Pre t pre) (hl : ∀ σ, (ds σ).length ≤ 1000) (h : PA X es (tDs t pre ds)) : PE X (.Tuple es x1 pos) (tD t pre fun σ => .tuple (ds σ)) :=
  pe_as (pe_tup h) fun σ H Q q => ⟨q.1, fun vs H1 s1 h1 => ⟨by have := shAll_len h1; have := hl σ; have : sizeLine = 16777216 := rfl; omega, fun p hp => q.2 _ _ (s1.trans (same_laid hp)) (sh_tup ((hP.has _ _ q.1).same s1) h1 hp)⟩⟩
theorem ped_lst {pos} {es : List Expr} {ds : St → List PyData} (hP : Pre t pre) (hl : ∀ σ, (ds σ).length ≤ 1000) (h : PA X es (tDs t pre ds)) : PE X (.List es pos) (tD t pre fun σ => .list (ds σ)) :=
  pe_as (pe_lst h) fun σ H Q q => ⟨q.1, fun vs H1 s1 h1 => ⟨by have := shAll_len h1; have := hl σ; have : sizeLine = 16777216 := rfl; omega, fun p hp => q.2 _ _ (s1.trans (same_laid hp)) (sh_lst ((hP.has _ _ q.1).same s1) h1 hp)⟩⟩
/-- sums of tuples -/
def rCatS (t : Addr) : R2 := fun x y H Q => ∃ ds es, HasT t H ∧ Sh t H x (.tuple ds) ∧ Sh t H y (.tuple es) ∧ ds.length + es.length ≤ 1000000 ∧ ∀ v H', Same H H' → Sh t H' v (.tuple (ds ++ es)) → Q v H'
theorem shAll_app {H : Hp} : ∀ {vs ws : List V} {ds es : List PyData}, ShowsAll H vs ds → ShowsAll H ws es → ShowsAll H (vs ++ ws) (ds ++ es) := by
  intro vs
  induction vs with
  | nil => intro ws ds es h g; cases h; exact g
  | cons v vs ih =>
    intro ws ds es h g
    cases h with
    | cons a b => exact .cons a (ih b g)
theorem op_catS : OpR X (binaryOp .Add) (rCatS t) := by
  intro pins s σ H x y v u Q I rx ry h
  obtain ⟨ds, es, hT, sx, sy, hz, q⟩ := h
  cases sx with
  | tup ex ax =>
    cases sy with
    | tup ey ay =>
      have lx := shAll_len ax
      have ly := shAll_len ay
      refine op_catA pins s σ H _ _ v u Q I rx ry ⟨_, _, _, _, rfl, rfl, SqT.of (hid_get ex).2, SqT.of (hid_get ey).2, by have : sizeLine = 16777216 := rfl; omega, fun e => ?_, fun n e => ?_, fun n m p hp => ?_⟩
      · subst e
        cases ax
        exact q _ H (Same.refl _) (.tup ey ay)
      · subst e
        cases ay
        rw [List.append_nil] at q
        exact q _ H (Same.refl _) (.tup ex ax)
      · exact q _ _ (same_laid hp) (sh_tup hT (shAll_app ax ay) hp)
end
/-! ### written data -/
mutual
inductive LitD : Expr → PyData → Prop
  | non {j pos} : LitD (.Constant .none j pos) .none
  | bl {b j pos} : LitD (.Constant (.bool b) j pos) (.bool b)
  | int {i j pos} : LitD (.Constant (.int i) j pos) (.int i)
  | str {x j pos} : LitD (.Constant (.str x) j pos) (.str x)
  | tup {es ds x1 pos} : LitDs es ds → ds.length ≤ 1000 → LitD (.Tuple es x1 pos) (.tuple ds)
  | lst {es ds pos} : LitDs es ds → ds.length ≤ 1000 → LitD (.List es pos) (.list ds)
inductive LitDs : List Expr → List PyData → Prop
  | nil : LitDs [] []
  | cons {e es d ds} : LitD e d → LitDs es ds → LitDs (e :: es) (d :: ds)
end
theorem LitD.star {e : Expr} {d : PyData} (h : LitD e d) (es : List Expr) (env : Env) : starEach (e :: es) env = (false, eval e env) :: starEach es env := by
  cases h <;> rfl
section
variable {X : Cx} {t : Addr} {pre : St → Hp → Prop}
theorem ped_lit (hP : Pre t pre) {e : Expr} {d : PyData} (h : LitD e d) : PE X e (tD t pre fun _ => d) :=
  LitD.rec (motive_1 := fun e d _ => PE X e (tD t pre fun _ => d)) (motive_2 := fun es ds _ => PA X es (tDs t pre fun _ => ds))
    ped_non ped_bl ped_int ped_str (fun _ hl ih => ped_tup hP (fun _ => hl) ih) (fun _ hl ih => ped_lst hP (fun _ => hl) ih) pad_nil (fun hd _ i1 i2 => pad_cons hP i1 i2 (hd.star _ _)) h
/-- a written list whose items hang on names -/
inductive ItD (X : Cx) (t : Addr) (pre : St → Hp → Prop) : List Expr → List (St → PyData) → Prop
  | nil : ItD X t pre [] []
  | cons {e es d ds} : PE X e (tD t pre d) → starEach (e :: es) X.env = (false, eval e X.env) :: starEach es X.env → ItD X t pre es ds → ItD X t pre (e :: es) (d :: ds)
theorem pa_it (hP : Pre t pre) {es : List Expr} {ds : List (St → PyData)} (h : ItD X t pre es ds) : PA X es (tDs t pre fun σ => ds.map fun d => d σ) := by
  induction h with
  | nil => exact pad_nil
  | cons a b _ ih => exact pad_cons hP a ih b
theorem ped_it (hP : Pre t pre) {es : List Expr} {ds : List (St → PyData)} {pos : Pos} (hl : ds.length ≤ 1000) (h : ItD X t pre es ds) : PE X (.List es pos) (tD t pre fun σ => .list (ds.map fun d => d σ)) :=
  ped_lst hP (fun σ => by rw [List.length_map]; exact hl) (pa_it hP h)
end
/-! ### bent -/
inductive IB (k l : Nat) : PyData → Prop
  | non : IB k l .none
  | bl (b : Bool) : IB k l (.bool b)
  | int (i : Int) (h : i.natAbs ≤ k) : IB k l (.int i)
  | str (x : Str) : IB k l (.str x)
  | tup (ds : List PyData) (hl : ds.length ≤ l) (h : ∀ d ∈ ds, IB k l d) : IB k l (.tuple ds)
  | lst (ds : List PyData) (hl : ds.length ≤ l) (h : ∀ d ∈ ds, IB k l d) : IB k l (.list ds)
theorem IB.mono {k l k' l' : Nat} {d : PyData} (h : IB k l d) (hk : k ≤ k') (hl : l ≤ l') : IB k' l' d := by
  induction h with
  | non => exact .non
  | bl b => exact .bl b
  | int i h => exact .int i (Nat.le_trans h hk)
  | str x => exact .str x
  | tup ds h2 _ ih => exact .tup ds (Nat.le_trans h2 hl) ih
  | lst ds h2 _ ih => exact .lst ds (Nat.le_trans h2 hl) ih
theorem IB.elem {k l : Nat} {ds : List PyData} (h : IB k l (.tuple ds)) : ∀ d ∈ ds, IB k l d := by cases h; assumption
theorem IB.len {k l : Nat} {ds : List PyData} (h : IB k l (.tuple ds)) : ds.length ≤ l := by cases h; assumption
def cutD (xs : List PyData) (lo hi : Option Int) : List PyData := (xs.drop (HT.sIx xs.length 0 lo)).take (HT.sIx xs.length xs.length hi - HT.sIx xs.length 0 lo)
theorem shAll_drop {H : Hp} : ∀ (n : Nat) {vs : List V} {ds : List PyData}, ShowsAll H vs ds → ShowsAll H (vs.drop n) (ds.drop n)
  | 0, _, _, h => h
  | n + 1, vs, ds, h => by
    cases h with
    | nil => exact .nil
    | cons a b => exact shAll_drop n b
theorem shAll_take {H : Hp} : ∀ (n : Nat) {vs : List V} {ds : List PyData}, ShowsAll H vs ds → ShowsAll H (vs.take n) (ds.take n)
  | 0, _, _, h => .nil
  | n + 1, vs, ds, h => by
    cases h with
    | nil => exact .nil
    | cons a b => exact .cons a (shAll_take n b)
theorem shAll_rev {H : Hp} {vs : List V} {ds : List PyData} (h : ShowsAll H vs ds) : ShowsAll H vs.reverse ds.reverse := by
  induction vs generalizing ds with
  | nil => cases h; exact .nil
  | cons v vs ih =>
    cases h with
    | cons a b => rw [List.reverse_cons, List.reverse_cons]; exact shAll_app (ih b) (.cons a .nil)
theorem sh_cut {H : Hp} {vs : List V} {ds : List PyData} {lo hi : Option Int} (h : ShowsAll H vs ds) : ShowsAll H (cutV vs lo hi) (cutD ds lo hi) := by
  unfold cutV cutD
  rw [shAll_len h]
  exact shAll_take _ (shAll_drop _ h)
theorem cutD_all {ds : List PyData} {lo hi : Option Int} (h : HT.sIx ds.length 0 lo = 0 ∧ HT.sIx ds.length ds.length hi = ds.length) : cutD ds lo hi = ds := by
  unfold cutD
  rw [h.1, h.2, List.drop_zero, Nat.sub_zero, List.take_of_length_le (Nat.le_refl _)]
theorem cutD_mem {ds : List PyData} {lo hi : Option Int} {d : PyData} (h : d ∈ cutD ds lo hi) : d ∈ ds := List.mem_of_mem_drop (List.mem_of_mem_take h)
theorem cutD_wt (ds : List PyData) (lo hi : Option Int) : PyData.weightAll (cutD ds lo hi) ≤ PyData.weightAll ds := Nat.le_trans (wt_take _ _) (wt_drop _ _)
theorem len_wt (ds : List PyData) : ds.length ≤ PyData.weightAll ds := PySem.PyData.length_le_weightAll ds
section
variable {X : Cx} {t : Addr}
def rSlS (t : Addr) : V → Option Int → Option Int → Hp → VK → Prop := fun x lo hi H Q => ∃ ds, HasT t H ∧ Sh t H x (.tuple ds) ∧ ∀ v H', Same H H' → Sh t H' v (.tuple (cutD ds lo hi)) → Q v H'
theorem sl_tupS : SlR X (rSlS t) := by
  intro pins s σ H x v vl vu lo hi sl Q I rx hs pl pu h
  obtain ⟨ds, hT, sx, q⟩ := h
  cases sx with
  | tup ex ax =>
    have lx := shAll_len ax
    refine sl_tupA pins s σ H _ v vl vu lo hi sl Q I rx hs pl pu ⟨_, _, rfl, SqT.of (hid_get ex).2, fun c => ?_, fun _ p hp => ?_⟩
    · rw [lx] at c
      refine q _ H (Same.refl _) ?_
      rw [cutD_all c]
      exact .tup ex ax
    · exact q _ _ (same_laid hp) (sh_tup hT (sh_cut ax) hp)
end
def spB : Nat → Sp
  | 0 => fun _ _ _ _ => False
  | m + 1 => fun vs H Q _ => ∃ (t : Addr) (N : Nat) (v : V) (d : PyData) (k l n p : Nat), vs = [.ref t, v] ∧ TapeAt H t N ∧ N + 3 * (m + 1) < 900000 ∧ Sh t H v d ∧ IB k l d ∧ Fn n p d ∧ p ≤ m ∧ k ≤ 100000 ∧ n ≤ 400000 ∧
    ∀ (v' : V) (d' : PyData) (H' : Hp), Sh t H' v' d' → IB (k + 100) (l + 1) d' → Fn (2 * n + 1000) (p + 1) d' → TapeAt H' t (N + 3 * (m + 1)) → Sm t H H' → Q v' H'
theorem fn_depth {n p : Nat} {ds : List PyData} (h : Fn n p (.tuple ds)) : 1 ≤ p := by
  have := h.dp
  simp only [PyData.depth] at this
  omega
theorem fn_str {x : Str} (h : x.length ≤ 12) (ok : PyData.strOk x = true) : Fn 100 0 (.str x) := by
  refine ⟨?_, Nat.le_refl _, ?_, rfl, rfl⟩
  · simp only [PyData.weight]
    have : x.cps.size = x.length := rfl
    omega
  · simp only [PyData.canLay0]; exact ok
theorem ok_ofString (s : String) : PyData.strOk (Str.ofString s) = true := by
  rw [Str.ofString_eq_toList]
  unfold PyData.strOk
  rw [Array.all_eq_true']
  intro x hx
  have hx' : x ∈ s.toList.map Char.toNat := by simpa using hx
  obtain ⟨c, _, rfl⟩ := List.mem_map.mp hx'
  refine decide_eq_true ?_
  have := c.valid
  show c.val.toNat < _
  rcases this with h | h
  · have : c.val.toNat < 0xd800 := h
    omega
  · exact h.2
theorem len_text (i : Int) (h : i.natAbs < 1000000000) : (Str.ofString (toString i)).length ≤ 12 := by
  have e := int_text_length_le10 (a := i) (k := 9) (by decide) (by simpa using h)
  have e2 : (Str.ofString (toString i)).length = (toString i).length := by
    rw [Str.ofString_eq_toList]
    show ((toString i).toList.map Char.toNat).toArray.size = _
    rw [List.size_toArray, List.length_map, String.length_toList]
  omega
def dsOf (d : PyData) : List PyData := match d with
  | .tuple ds => ds
  | _ => []
def aOf (σ : St) : Int := match σ[2]? with
  | some (some (V.int a)) => a
  | _ => 0
def iOf (σ : St) : Int := match σ[1]? with
  | some (some (V.int a)) => a
  | _ => 0
def pre2 (t : Addr) (v : V) (d : PyData) (σ : St) (H : Hp) : Prop := HasT t H ∧ σ[1]? = some (some v) ∧ Sh t H v (.tuple (dsOf d)) ∧ σ[2]? = some (some (.int (aOf σ))) ∧ 2 * (dsOf d).length + 2 ≤ 1000000
def pre3 (t : Addr) (σ : St) (H : Hp) : Prop := HasT t H ∧ σ[1]? = some (some (.int (iOf σ))) ∧ (iOf σ).natAbs < 1000000
def pre4 (t : Addr) (_ : St) (H : Hp) : Prop := HasT t H
theorem Pre2 {t : Addr} {v : V} {d : PyData} : Pre t (pre2 t v d) := ⟨fun σ H H' h s => ⟨h.1.same s, h.2.1, h.2.2.1.same s, h.2.2.2⟩, fun σ H h => h.1⟩
theorem Pre3 {t : Addr} : Pre t (pre3 t) := ⟨fun σ H H' h s => ⟨h.1.same s, h.2⟩, fun σ H h => h.1⟩
theorem Pre4 {t : Addr} : Pre t (pre4 t) := ⟨fun σ H H' h s => HasT.same h s, fun σ H h => h⟩
section
variable {X : Cx} {t : Addr} {v : V} {d : PyData}
theorem cut_len (ds : List PyData) (lo hi : Option Int) : (cutD ds lo hi).length ≤ ds.length := by
  unfold cutD
  rw [List.length_take, List.length_drop]
  omega
theorem b1 {te : TE} {e : Expr} (h : PE X e te) (m : ∀ σ H Q, (∃ a xs, σ[1]? = some (some (.ref a)) ∧ SqT X.K H a xs ∧ ∀ l, H l = none → Q (.ref l) (upd H l (.lst xs))) → te σ H Q) : PE X e (tD t (pre2 t v d) fun _ => .list (dsOf d)) := pe_as h fun σ H Q q => by
  obtain ⟨⟨hT, h1, S, _⟩, q⟩ := q
  cases S with
  | tup ex ax => exact m σ H Q ⟨_, _, h1, SqT.of (hid_get ex).2, fun l hl => q _ _ (same_laid hl) (sh_lst hT ax hl)⟩
end
/-! ### readings of long written lists, put together behind a box -/
structure WP (p : Prop) : Prop where
  out : p
section
variable {X : Cx}
theorem wcons {st : Stmt} {rest : List Stmt} {t u : TS} (a : WP (PS X st t)) (b : WP (PSs X rest u)) : WP (PSs X (st :: rest) (tSeq t u)) := a.rec fun a => b.rec fun b => .mk (pss_cons a b)
theorem wone {st : Stmt} {t : TS} (a : WP (PS X st t)) : WP (PSs X [st] t) := a.rec fun a => .mk (pss_one a)
theorem wset {pos : Pos} {i : Nat} {x : Str} {e : Expr} {te : TE} {pos' : Pos} (hN : X.N.Nodup) (hi : X.N[i]? = some x) (hx : L2.Loc X.env.scope x) (he : WP (PE X e te)) (hs : swapsWith e (some (.Name x pos')) pos.line X.env = pure false := by rfl) (hf : X.fn x = true ∨ X.env.scope.names.lookup x = some .local := by first | exact .inl rfl | exact .inr rfl | assumption) :
    WP (PS X (.Assign [.Name x pos'] e pos) (tAsg te (gName i))) := he.rec fun he => .mk (ps_set hN hi hx he hs hf)
theorem wif {t u : TS} {pos : Pos} {c : Expr} {a b : List Stmt} {tc : TT} (hc : WP (PT X c tc)) (ha : WP (PSs X a t)) (hb : WP (PSs X b u)) : WP (PS X (.If c a b pos) (tIfS tc t u)) := hc.rec fun hc => ha.rec fun ha => hb.rec fun hb => .mk (ps_if hc ha hb)
theorem wret {e : Expr} {te : TE} {pos : Pos} (he : WP (PE X e te)) : WP (PS X (.Return (some e) pos) (tRet te)) := he.rec fun he => .mk (ps_ret he)
theorem wix {a b : Expr} {ta tb : TE} {pos : Pos} {r : R2} (hr : IxR X r) (ha : WP (PE X a ta)) (hb : WP (PE X b tb)) (hp : PlainIx b) : WP (PE X (.Subscript a b pos) (tOp r ta tb)) := ha.rec fun ha => hb.rec fun hb => .mk (pe_ix hr ha hb hp)
theorem wilist {tg l : Expr} {tl : TE} (h : WP (PE X l tl)) : WP (PI X tg l (iList X.K tl)) := h.rec fun h => .mk (pi_list h)
theorem wfor {tg iter : Expr} {body : List Stmt} {wi : TI} {g : TG} {tb : TS} {pos : Pos} (hp : PassesOwn (model X.prog X.w) X.A X.env X.xe) (hc : X.calm = true) (hi : WP (PI X tg iter wi)) (hg : PG X tg g) (hb : WP (PSs X body tb))
    (hs : ∀ x, foldedSetIterable iter X.env x = pure x := by intro _; rfl) : WP (PS X (.For tg iter body [] pos) (tFor wi g tb)) := hi.rec fun hi => hb.rec fun hb => .mk (ps_for hp hc hi hg hb hs)
theorem wit {t : Addr} {pre : St → Hp → Prop} (hP : Pre t pre) {es : List Expr} {ds : List (St → PyData)} {pos : Pos} (hl : ds.length ≤ 1000) (h : ItD X t pre es ds) : WP (PE X (.List es pos) (tD t pre fun σ => .list (ds.map fun d => d σ))) := .mk (ped_it hP hl h)
theorem wlit {t : Addr} {pre : St → Hp → Prop} (hP : Pre t pre) {e : Expr} {d : PyData} (h : LitD e d) : WP (PE X e (tD t pre fun _ => d)) := .mk (ped_lit hP h)
end
section
variable {P : Program} {w : World} {K : PySem.W.Frag} {mg : Str → Option Value} {base : Heap}
theorem okW {x qual : Str} {st : Stmt} {f : Addr} {fd : FuncData} {N ps : List Str} {k : Nat} {sp : Sp} (F : Fun K x qual st f fd) (S : FnScope N ps (defScope st)) (len : ∀ vs H Q E, sp vs H Q E → vs.length = ps.length)
    (hbody : ∀ (cdv : Value) (A : Around) (outer : List Env) (s : Shared) (H : Hp) (vs : List V) (Q : VK) (E : XK), Room k (A.deeper (PyProof.Rows.envOfC qual (defScope st) s.heap.objs.size f cdv)) → sp vs H Q E →
      ∃ t, WP (PSs (cxOf CX0 P w K mg base N qual (defScope st) f cdv A outer s H E).nox (defBody st) t) ∧ t { nx := fun _ H' => Q .non H', rt := Q } (start N vs) H) : FnOk P w K mg base CX0 (k + 1) f fd ps sp :=
  F.ok S len fun cdv A outer s H vs Q E hr h => by
    obtain ⟨t, ⟨hp⟩, q⟩ := hbody cdv A outer s H vs Q E hr h
    exact ⟨t, hp, q⟩
end
section
variable {X : Cx} {t : Addr} {v : V} {d : PyData}
theorem b2 {te : TE} {e : Expr} (h : PE X e te) (m : ∀ σ H Q, pre2 t v d σ H → (∀ v' H', Same H H' → Sh t H' v' (.tuple (cutD (dsOf d) none (some (aOf σ)) ++ cutD (dsOf d) (some (aOf σ + 1)) none)) → Q v' H') → te σ H Q) :
    PE X e (tD t (pre2 t v d) fun σ => .tuple (cutD (dsOf d) none (some (aOf σ)) ++ cutD (dsOf d) (some (aOf σ + 1)) none)) := pe_as h fun σ H Q q => m σ H Q q.1 q.2
end
theorem wt_one (d : PyData) : PyData.weightAll [d] = d.weight + 1 := by simp [PyData.weightAll]
theorem fn_self {n p : Nat} {d : PyData} (h : Fn n p d) : Fn d.weight p d := ⟨Nat.le_refl _, h.dp, h.cl, h.sh, h.sw⟩
theorem cut_at {ds : List PyData} {a : Int} (h0 : 0 ≤ a) (h1 : a ≤ ds.length) : cutD ds none (some a) = ds.take a.toNat ∧ cutD ds (some (a + 1)) none = ds.drop (a.toNat + 1) := by
  obtain ⟨k, rfl⟩ : ∃ k : Nat, a = k := ⟨a.toNat, by omega⟩
  constructor
  · unfold cutD
    rw [HT.sIx_none, List.drop_zero, Nat.sub_zero, HT.sIx_nat, show min k ds.length = k by omega]
    rfl
  · unfold cutD
    rw [HT.sIx_none, show ((k : Int) + 1) = ((k + 1 : Nat) : Int) by omega, HT.sIx_nat]
    show (ds.drop (min (k + 1) ds.length)).take (ds.length - min (k + 1) ds.length) = ds.drop (k + 1)
    by_cases c : k + 1 ≤ ds.length
    · rw [show min (k + 1) ds.length = k + 1 by omega, List.take_of_length_le (by rw [List.length_drop]; exact Nat.le_refl _)]
    · rw [show min (k + 1) ds.length = ds.length by omega, Nat.sub_self, List.take_zero, List.drop_of_length_le (by omega)]
section
variable {P : Program} {w : World} {K : PySem.W.Frag} {mg : Str → Option Value} {base : Heap}
end
theorem sm_eqT {H H' : Hp} {t : Addr} (h : ∀ b, b ≠ t → H' b = H b) : Sm t H H' := fun b o n e => by rw [h b n]; exact e
/-- one of a list of shown things, drawn -/
theorem pick {K : PySem.W.Frag} {t : Addr} {H : Hp} {v : V} {ds : List PyData} {N : Nat} {i : Int} {Q : VK} {E : XK} (S : Sh t H v (.list ds)) (T : TapeAt H t N) (hN : N < 1000000) (hi : i = ds.length) (h0 : 0 < i) (h1 : i < 1000000)
    (k : ∀ x d H', d ∈ ds → Sh t H' x d → TapeAt H' t (N + 1) → Sm t H H' → Q x H') : spDraw [.ref t, .int i] H (fun y H' => rIxL K v y H' Q) E := by
  cases S with
  | lst ex ax =>
    refine ⟨t, N, i, rfl, T, hN, h0, h1, fun r H1 r0 r1 T1 e1 => ?_⟩
    have s1 : Sm t H H1 := sm_eqT e1
    obtain ⟨j, rfl⟩ : ∃ j : Nat, r = j := ⟨r.toNat, by omega⟩
    have hj : j < ds.length := by omega
    obtain ⟨x, hx, sx⟩ := shAll_get ax (List.getElem?_eq_getElem hj)
    exact ⟨_, _, _, x, rfl, rfl, SqL.of (s1 _ _ (hid_get ex).1 (hid_get ex).2), atI_nat hx, k x _ H1 (List.getElem_mem hj) (Sh.sm sx s1) T1 s1⟩
theorem fn_lit {n p : Nat} {d : PyData} (h1 : Nat.ble d.weight 1000 = true) (h2 : Nat.ble d.depth 1 = true) (h3 : d.canLay0 = true) (h4 : d.intsShort 13 = true) (h5 : d.showable = true) : Fn (2 * n + 1000) (p + 1) d :=
  ⟨by have := Nat.le_of_ble_eq_true h1; omega, by have := Nat.le_of_ble_eq_true h2; omega, h3, h4, h5⟩
theorem lit9 {k l n p : Nat} {d : PyData} (h : d ∈ [PyData.none, .bool true, .bool false, .int 0, .int 1, .str (Str.ofString "a"), .tuple [], .list [], .tuple [.int 0]]) : IB (k + 100) (l + 1) d ∧ Fn (2 * n + 1000) (p + 1) d := by
  simp only [List.mem_cons, List.not_mem_nil, or_false] at h
  rcases h with rfl | rfl | rfl | rfl | rfl | rfl | rfl | rfl | rfl
  · exact ⟨.non, fn_lit (by decide +kernel) (by decide +kernel) (by decide +kernel) (by decide +kernel) (by decide +kernel)⟩
  · exact ⟨.bl _, fn_lit (by decide +kernel) (by decide +kernel) (by decide +kernel) (by decide +kernel) (by decide +kernel)⟩
  · exact ⟨.bl _, fn_lit (by decide +kernel) (by decide +kernel) (by decide +kernel) (by decide +kernel) (by decide +kernel)⟩
  · exact ⟨.int _ (by show (0 : Int).natAbs ≤ _; simp), fn_lit (by decide +kernel) (by decide +kernel) (by decide +kernel) (by decide +kernel) (by decide +kernel)⟩
  · exact ⟨.int _ (by show 1 ≤ _; omega), fn_lit (by decide +kernel) (by decide +kernel) (by decide +kernel) (by decide +kernel) (by decide +kernel)⟩
  · exact ⟨.str _, fn_lit (by decide +kernel) (by decide +kernel) (by decide +kernel) (by decide +kernel) (by decide +kernel)⟩
  · exact ⟨.tup _ (Nat.zero_le _) (fun d hd => by simp at hd), fn_lit (by decide +kernel) (by decide +kernel) (by decide +kernel) (by decide +kernel) (by decide +kernel)⟩
  · exact ⟨.lst _ (Nat.zero_le _) (fun d hd => by simp at hd), fn_lit (by decide +kernel) (by decide +kernel) (by decide +kernel) (by decide +kernel) (by decide +kernel)⟩
  · refine ⟨.tup _ (by show 1 ≤ l + 1; omega) (fun d hd => ?_), fn_lit (by decide +kernel) (by decide +kernel) (by decide +kernel) (by decide +kernel) (by decide +kernel)⟩
    simp at hd
    subst hd
    exact .int _ (by simp)
theorem lit10 {k l n p : Nat} {i : Int} {d : PyData} (hi : i.natAbs ≤ k) (hk : k ≤ 100000) (h : d ∈ [PyData.int (i + 1), .int (i - 1), .bool (decide (i = 1)), .none, .int 0, .int 24, .int 25, .int 99, .int 100, .str (Str.ofString (toString i))]) : IB (k + 100) (l + 1) d ∧ Fn (2 * n + 1000) (p + 1) d := by
  have fi : ∀ j : Int, j.natAbs ≤ k + 100 → IB (k + 100) (l + 1) (.int j) ∧ Fn (2 * n + 1000) (p + 1) (.int j) := fun j hj => ⟨.int _ hj, (fn_int (by omega)).mono (by omega) (by omega)⟩
  simp only [List.mem_cons, List.not_mem_nil, or_false] at h
  rcases h with rfl | rfl | rfl | rfl | rfl | rfl | rfl | rfl | rfl | rfl
  · exact fi _ (by omega)
  · exact fi _ (by omega)
  · exact ⟨.bl _, (fn_bool _).mono (by omega) (by omega)⟩
  · exact ⟨.non, fn_lit (by decide +kernel) (by decide +kernel) (by decide +kernel) (by decide +kernel) (by decide +kernel)⟩
  · exact fi _ (by omega)
  · exact fi _ (by omega)
  · exact fi _ (by omega)
  · exact fi _ (by omega)
  · exact fi _ (by omega)
  · exact ⟨.str _, (fn_str (len_text i (by omega)) (ok_ofString _)).mono (by omega) (by omega)⟩
theorem cut_one (ds : List PyData) : (cutD ds none (some 1)).length ≤ 1 := by
  have := (cut_at (ds := ds) (a := 1))
  unfold cutD
  rw [HT.sIx_none, List.drop_zero, Nat.sub_zero, show (1 : Int) = ((1 : Nat) : Int) from rfl, HT.sIx_nat, List.length_take]
  omega
theorem lit5 {k l n p : Nat} {a : Int} {ds : List PyData} {d : PyData} (ha : 0 ≤ a) (ha2 : a ≤ ds.length) (hb : IB k l (.tuple ds)) (hf : Fn n p (.tuple ds))
    (h : d ∈ [PyData.list ds, .tuple (cutD ds none (some a) ++ cutD ds (some (a + 1)) none), .tuple (ds ++ cutD ds none (some 1)), .tuple ds.reverse, .tuple (ds ++ [.int 0])]) : IB (k + 100) (l + 1) d ∧ Fn (2 * n + 1000) (p + 1) d := by
  have hp := fn_depth hf
  obtain ⟨p', rfl⟩ : ∃ p', p = p' + 1 := ⟨p - 1, by omega⟩
  have be := hb.elem
  have b0 : ∀ d ∈ ds, IB (k + 100) (l + 1) d := fun d hd => (be d hd).mono (by omega) (by omega)
  have f0 : ∀ d ∈ ds, ∃ n, Fn n p' d := fun d hd => ⟨n, fn_elem hf hd⟩
  have hw : PyData.weightAll ds ≤ n := by have := hf.wt; simpa only [PyData.weight] using this
  have hln := hb.len
  have w1 := cutD_wt ds none (some a)
  have w2 := cutD_wt ds (some (a + 1)) none
  have w3 := cutD_wt ds none (some 1)
  simp only [List.mem_cons, List.not_mem_nil, or_false] at h
  rcases h with rfl | rfl | rfl | rfl | rfl
  · exact ⟨.lst _ (by omega) b0, (fn_mkL f0 hw).mono (by omega) (by omega)⟩
  · have mm : ∀ d ∈ cutD ds none (some a) ++ cutD ds (some (a + 1)) none, d ∈ ds := fun d hd => (List.mem_append.mp hd).elim cutD_mem cutD_mem
    exact ⟨.tup _ (by rw [List.length_append]; rw [(cut_at ha ha2).1, (cut_at ha ha2).2, List.length_take, List.length_drop]; omega) fun d hd => b0 d (mm d hd), (fn_mkT (w := 2 * n) (fun d hd => f0 d (mm d hd)) (by rw [wt_append]; omega)).mono (by omega) (by omega)⟩
  · have mm : ∀ d ∈ ds ++ cutD ds none (some 1), d ∈ ds := fun d hd => (List.mem_append.mp hd).elim id cutD_mem
    exact ⟨.tup _ (by rw [List.length_append]; have := cut_one ds; omega) fun d hd => b0 d (mm d hd), (fn_mkT (w := 2 * n) (fun d hd => f0 d (mm d hd)) (by rw [wt_append]; omega)).mono (by omega) (by omega)⟩
  · have mm : ∀ d ∈ ds.reverse, d ∈ ds := fun d hd => List.mem_reverse.mp hd
    exact ⟨.tup _ (by rw [List.length_reverse]; omega) fun d hd => b0 d (mm d hd), (fn_mkT (w := n) (fun d hd => f0 d (mm d hd)) (by rw [wt_reverse]; omega)).mono (by omega) (by omega)⟩
  · have f1 := fn_int (i := 0) (by decide)
    have w5 := f1.wt
    refine ⟨.tup _ (by rw [List.length_append]; show _ + 1 ≤ _; omega) fun d hd => (List.mem_append.mp hd).elim (b0 d) (fun h => ?_), (fn_mkT (w := 2 * n + 1000) (fun d hd => (List.mem_append.mp hd).elim (f0 d) (fun h => ?_)) (by rw [wt_append, wt_one]; omega)).mono (by omega) (by omega)⟩
    · simp at h
      subst h
      exact .int _ (by simp)
    · simp at h
      subst h
      exact ⟨_, f1.mono (Nat.le_refl _) (by omega)⟩
theorem wt_split : ∀ {ds : List PyData} {j : Nat} (h : j < ds.length), PyData.weightAll ds = PyData.weightAll (ds.take j) + (ds[j].weight + 1) + PyData.weightAll (ds.drop (j + 1)) := by
  intro ds j h
  have e : ds = ds.take j ++ ([ds[j]] ++ ds.drop (j + 1)) := by simp
  have := congrArg PyData.weightAll e
  rw [wt_append, wt_append, wt_one] at this
  omega
theorem bentA {k l n p : Nat} {ds : List PyData} {d : PyData} {j : Nat} (hj : j < ds.length) (hb : IB k l (.tuple ds)) (hf : Fn n (p + 1) (.tuple ds)) (gb : IB (k + 100) (l + 1) d) (gf : Fn (2 * ds[j].weight + 1000) (p + 1) d) :
    IB (k + 100) (l + 1) (.tuple (cutD ds none (some (j : Int)) ++ [d] ++ cutD ds (some ((j : Int) + 1)) none)) ∧ Fn (2 * n + 1000) (p + 1 + 1) (.tuple (cutD ds none (some (j : Int)) ++ [d] ++ cutD ds (some ((j : Int) + 1)) none)) := by
  have b0 : ∀ d ∈ ds, IB (k + 100) (l + 1) d := fun d hd => (hb.elem d hd).mono (by omega) (by omega)
  have f0 : ∀ d ∈ ds, ∃ n, Fn n (p + 1) d := fun d hd => ⟨n, (fn_elem hf hd).mono (Nat.le_refl _) (by omega)⟩
  have hw : PyData.weightAll ds ≤ n := by have := hf.wt; simpa only [PyData.weight] using this
  have hln := hb.len
  have sp := wt_split hj
  have gw := gf.wt
  obtain ⟨c1, c2⟩ := cut_at (ds := ds) (a := j) (by omega) (by omega)
  rw [c1, c2, Int.toNat_natCast]
  have m1 : ∀ x ∈ ds.take j, x ∈ ds := fun x hx => List.mem_of_mem_take hx
  have m2 : ∀ x ∈ ds.drop (j + 1), x ∈ ds := fun x hx => List.mem_of_mem_drop hx
  refine ⟨.tup _ (by rw [List.length_append, List.length_append, List.length_take, List.length_drop]; show _ + 1 + _ ≤ _; omega) fun x hx => ?_, fn_mkT (fun x hx => ?_) (by rw [wt_append, wt_append, wt_one]; omega)⟩
  · rcases List.mem_append.mp hx with hx | hx
    · rcases List.mem_append.mp hx with hx | hx
      · exact b0 x (m1 x hx)
      · cases List.mem_singleton.mp hx; exact gb
    · exact b0 x (m2 x hx)
  · rcases List.mem_append.mp hx with hx | hx
    · rcases List.mem_append.mp hx with hx | hx
      · exact f0 x (m1 x hx)
      · cases List.mem_singleton.mp hx; exact ⟨_, gf⟩
    · exact f0 x (m2 x hx)
section
variable {P : Program} {w : World} {K : PySem.W.Frag} {mg : Str → Option Value} {base : Heap}
theorem scBent : FnScope ["_law_tape_here", "_law_thing", "_law_at", "_law_some"] ["_law_tape_here", "_law_thing"] (defScope sBent) := ⟨rfl, rfl, rfl, by decide +kernel, rfl, by decide +kernel, by decide +kernel⟩
theorem ok_bent {f fD : Addr} {fd' fdD : FuncData} (F : Fun K "_law_bent" "_law_bent" sBent f fd') (bB : Binds K fd' ["_law_tape_here", "_law_thing"] []) (mB : mg "_law_bent" = some (.ref f)) (FD : Fun K "_law_draw" "_law_draw" sDraw fD fdD) (bD : Binds K fdD ["_law_tape_here", "_law_many"] []) (mD : mg "_law_draw" = some (.ref fD))
    (mIsi : mg "isinstance" = none) (mInt : mg "int" = none) (mBool : mg "bool" = none) (mTuple : mg "tuple" = none) (mList : mg "list" = none) (mStr : mg "str" = none) (mLen : mg "len" = none) : ∀ m : Nat, FnOk P w K mg base CX0 (m + 1) f fd' ["_law_tape_here", "_law_thing"] (spB m)
  | 0 => F.ok scBent (fun vs H Q E h => h.elim) (fun cdv A outer s H vs Q E hr h => h.elim)
  | m + 1 => by
    have GB := ok_bent F bB mB FD bD mD mIsi mInt mBool mTuple mList mStr mLen m
    have GD : FnOk P w K mg base CX0 (m + 1) fD fdD ["_law_tape_here", "_law_many"] spDraw := (ok_draw FD mLen).mono (by omega)
    refine okW F scBent (fun vs H Q E h => ?_) (fun cdv A outer s H vs Q E hr h => ?_)
    · obtain ⟨t, N, v, d, k, wd, n, p, rfl, _⟩ := h
      rfl
    · obtain ⟨t, N, v, d, k, wd, n, p, rfl, TT, hN, S, ib, fn, hp, hk, hn, kk⟩ := h
      have hu0 := hr.units0
      have hT : HasT t H := by obtain ⟨_, _, _, _, a, _⟩ := id TT; exact ⟨_, a⟩
      refine ⟨_, wcons (.mk (ps_if (PW.pt (pw_and (pt_val (pe_callB call_isinst (by rfl) mIsi (by decide +kernel) (pa_cons (pv 1) (pa_cons (pe_tyN (T := "tuple") (by rfl) mTuple (by decide +kernel)) pa_nil))))
          (pw_and (pt_cmpR (op_neTE hu0) (pv 1) (pe_tup pa_nil) (nomark _)) (pw_and1 (pt_cmpR op_gt (pe_call GD hr rfl mD FD.kp bD .nil pass0 (pa_cons (pv 0) (pa_cons pe_int pa_nil))) pe_int (nomark _))))))
        (pss_cons (ps_set (i := 2) scBent.nd rfl (Or.inl rfl) (pe_call GD hr rfl mD FD.kp bD .nil pass0 (pa_cons (pv 0) (pa_cons (pe_callB call_len_seq (by rfl) mLen PySem.boot_len (pa_cons (pv 1) pa_nil)) pa_nil))))
        (pss_one (ps_ret (pe_op (op_catS (t := t)) (pe_op (op_catS (t := t)) (pe_slice (sl_tupS (t := t)) (pv 1) po_none (po_some (pv 2))) (pe_tup (pa_cons (pe_call GB hr rfl mB F.kp bB .nil pass0 (pa_cons (pv 0) (pa_cons (pe_ix ix_tup (pv 1) (pv 2) (fun _ _ => rfl)) pa_nil))) pa_nil)))
          (pe_slice (sl_tupS (t := t)) (pv 1) (po_some (pe_op op_add (pv 2) pe_int)) po_none))))) pss_nil))
        (wcons (wif (.mk (pt_val (pe_callB call_isinst (by rfl) mIsi (by decide +kernel) (pa_cons (pv 1) (pa_cons (pe_tyN (T := "tuple") (by rfl) mTuple (by decide +kernel)) pa_nil)))))
          (wcons (.mk (ps_set (i := 2) scBent.nd rfl (Or.inl rfl) (pe_call GD hr rfl mD FD.kp bD .nil pass0 (pa_cons (pv 0) (pa_cons (pe_op op_add (pe_callB call_len_seq (by rfl) mLen PySem.boot_len (pa_cons (pv 1) pa_nil)) pe_int) pa_nil)))))
          (wcons (wset (i := 3) scBent.nd rfl (Or.inl rfl) (wit (Pre2 (t := t) (v := v) (d := d)) (Nat.le_of_ble_eq_true rfl) (.cons (b1 (pe_callTy call_list_of (by rfl) mList (by decide +kernel) (pa_cons (pv 1) pa_nil)) (fun σ H Q ⟨a, xs, e1, e2, q⟩ => ⟨_, e1, a, xs, rfl, .inr e2, q⟩)) rfl
            (.cons (b2 (pe_op (op_catS (t := t)) (pe_slice (sl_tupS (t := t)) (pv 1) po_none (po_some (pv 2))) (pe_slice (sl_tupS (t := t)) (pv 1) (po_some (pe_op op_add (pv 2) pe_int)) po_none)) (fun σ H Q pr q => by
              obtain ⟨hT, h1, S, h2, hl⟩ := pr
              refine ⟨_, h1, _, h2, _, rfl, _, hT, S, fun v1 H1 s1 c1 => ?_⟩
              refine ⟨_, h1, _, h2, _, _, rfl, rfl, _, rfl, _, hT.same s1, S.same s1, fun v2 H2 s2 c2 => ?_⟩
              have := cut_len (dsOf d) none (some (aOf σ))
              have := cut_len (dsOf d) (some (aOf σ + 1)) none
              exact ⟨_, _, (hT.same s1).same s2, c1.same s2, c2, by omega, fun v3 H3 s3 c3 => q v3 H3 (s1.trans (s2.trans s3)) c3⟩)) rfl
            (.cons (d := fun _ => .tuple (dsOf d ++ cutD (dsOf d) none (some 1))) (pe_as (pe_op (op_catS (t := t)) (pv 1) (pe_slice (sl_tupS (t := t)) (pv 1) po_none (po_some pe_int))) (fun σ H Q q => by
              obtain ⟨⟨hT, h1, S, h2, hl⟩, q⟩ := q
              refine ⟨_, h1, _, h1, _, rfl, _, hT, S, fun v2 H2 s2 c2 => ?_⟩
              have := cut_len (dsOf d) none (some 1)
              exact ⟨_, _, hT.same s2, S.same s2, c2, by omega, fun v3 H3 s3 c3 => q v3 H3 (s2.trans s3) c3⟩)) rfl
            (.cons (d := fun _ => .tuple (dsOf d).reverse) (pe_as (pe_rev (ops := fun a d => [a, d]) (pv 1) (pe_as (pe_un un_neg pe_int) (fun σ H Q q => ⟨1, rfl, q⟩)) (fun _ _ => by with_unfolding_all rfl)) (fun σ H Q q => by
              obtain ⟨⟨hT, h1, S, h2, hl⟩, q⟩ := q
              cases S with
              | tup ex ax => exact ⟨_, h1, _, _, rfl, SqT.of (hid_get ex).2, fun l hl => q _ _ (same_laid hl) (sh_tup hT (shAll_rev ax) hl)⟩)) rfl
            (.cons (d := fun _ => .tuple (dsOf d ++ [.int 0])) (pe_as (pe_op (op_catS (t := t)) (pv 1) (pe_tup (pa_cons pe_int pa_nil))) (fun σ H Q q => by
              obtain ⟨⟨hT, h1, S, h2, hl⟩, q⟩ := q
              refine ⟨_, h1, by show 1 ≤ sizeLine; decide, fun l hl' => ?_⟩
              exact ⟨_, _, hT.same (same_laid hl'), S.same (same_laid hl'), sh_tup hT (.cons (.int 0) .nil) hl', by show _ + 1 ≤ _; omega, fun v3 H3 s3 c3 => q v3 H3 ((same_laid hl').trans s3) c3⟩)) rfl .nil)))))))
          (.mk (pss_one (ps_ret (pe_ix ix_list (pv 3) (pe_call GD hr rfl mD FD.kp bD .nil pass0 (pa_cons (pv 0) (pa_cons pe_int pa_nil))) (fun _ _ => rfl))))))) (.mk pss_nil))
        (wcons (wif (.mk (PW.pt (pw_and (pt_val (pe_callB call_isinst (by rfl) mIsi (by decide +kernel) (pa_cons (pv 1) (pa_cons (pe_tyN (T := "int") (by rfl) mInt (by decide +kernel)) pa_nil)))) (pw_and1 (pt_not (pt_val (pe_callB call_isinst (by rfl) mIsi (by decide +kernel) (pa_cons (pv 1) (pa_cons (pe_tyN (T := "bool") (by rfl) mBool (by decide +kernel)) pa_nil)))))))))
          (wcons (wset (i := 3) scBent.nd rfl (Or.inl rfl) (wit (Pre3 (t := t)) (Nat.le_of_ble_eq_true rfl) (.cons (d := fun σ => .int (iOf σ + 1)) (pe_as (pe_op op_add (pv 1) pe_int) (fun σ H Q q => ⟨_, q.1.2.1, _, _, rfl, rfl, q.2 _ H (Same.refl _) (.int _)⟩)) rfl
            (.cons (d := fun σ => .int (iOf σ - 1)) (pe_as (pe_op op_sub (pv 1) pe_int) (fun σ H Q q => ⟨_, q.1.2.1, _, _, rfl, rfl, q.2 _ H (Same.refl _) (.int _)⟩)) rfl
            (.cons (d := fun σ => .bool (decide (iOf σ = 1))) (pe_as (pe_cmpR op_eq (pv 1) pe_int (nomark _)) (fun σ H Q q => ⟨_, q.1.2.1, rfl, by rw [dec_int']; exact q.2 _ H (Same.refl _) (.bl _)⟩)) rfl
            (.cons ped_non rfl (.cons ped_int rfl (.cons ped_int rfl (.cons ped_int rfl (.cons ped_int rfl (.cons ped_int rfl
            (.cons (d := fun σ => .str (Str.ofString (toString (iOf σ)))) (pe_as (pe_callTy call_strI (by rfl) mStr (by decide +kernel) (pa_cons (pv 1) pa_nil)) (fun σ H Q q => ⟨_, q.1.2.1, _, rfl, by have := q.1.2.2; omega, q.2 _ H (Same.refl _) (.str _)⟩)) rfl .nil))))))))))))
          (.mk (pss_one (ps_ret (pe_ix ix_list (pv 3) (pe_call GD hr rfl mD FD.kp bD .nil pass0 (pa_cons (pv 0) (pa_cons pe_int pa_nil))) (fun _ _ => rfl)))))) (.mk pss_nil))
        (wone (wret (wix ix_list (wlit (Pre4 (t := t)) (.lst (.cons .non (.cons .bl (.cons .bl (.cons .int (.cons .int (.cons .str (.cons (.tup .nil (Nat.zero_le _)) (.cons (.lst .nil (Nat.zero_le _)) (.cons (.tup (.cons .int .nil) (Nat.le_of_ble_eq_true rfl)) .nil))))))))) (Nat.le_of_ble_eq_true rfl)))
          (.mk (pe_call GD hr rfl mD FD.kp bD .nil pass0 (pa_cons (pv 0) (pa_cons pe_int pa_nil)))) (fun _ _ => rfl)))))), ?_⟩
      have Sv := S.shows
      obtain ⟨ty, bi, bb, bt, hty, e1, e2, e3, e4, e5, nD, tD'⟩ := isi_of (K := K) Sv
      by_cases c1 : tupD d = true
      · have c1' : bt = true := by rw [e5]; exact c1
        cases S with
        | non => cases c1
        | bl => cases c1
        | int => cases c1
        | str => cases c1
        | lst => cases c1
        | tup ex ax =>
          rename_i a xs ds
          have lx := shAll_len ax
          have lw : ds.length ≤ n := Nat.le_trans (len_wt ds) (by have := fn.wt; simpa only [PyData.weight] using this)
          refine ⟨_, rfl, _, _, ty, bt, rfl, hty, e3, bt, rfl, ifT c1' ?_⟩
          refine ⟨_, rfl, by show 0 ≤ sizeLine; decide, fun l hl => ?_⟩
          have s0 : Same H (upd H l (.tup [])) := same_laid hl
          have S0 := (show Sh t H (.ref a) (.tuple ds) from .tup ex ax).same s0
          have T0 := TT.keep s0
          have hT0 := hT.same s0
          have e0 : SqT (cxOf CX0 P w K mg base [Str.ofString "_law_tape_here", Str.ofString "_law_thing", Str.ofString "_law_at", Str.ofString "_law_some"] (Str.ofString "_law_bent") (defScope sBent) f cdv A outer s H E).nox.K (upd H l (.tup [])) l [] := SqT.of upd_same
          generalize upd H l (.tup []) = H0 at s0 S0 T0 hT0 e0 ⊢
          refine ⟨a, l, xs, rfl, rfl, SqT.of (s0 _ _ (hid_get ex).2), e0, ?_⟩
          refine ⟨_, rfl, ?_⟩
          by_cases c3 : (!xs.isEmpty) = true
          · refine ifT c3 ?_
            refine ⟨_, rfl, t, N, 4, rfl, T0, by omega, by decide, by decide, fun r H1 r0 r1 T1 e1' => ?_⟩
            have s1 : Sm t H H1 := (Sm.of s0).trans (sm_eqT e1')
            have S1 : Sh t H1 (.ref a) (.tuple ds) := S0.sm (sm_eqT e1')
            refine ⟨_, _, rfl, rfl, _, rfl, ?_⟩
            by_cases c4 : (decide ((0 : Int) < r)) = true
            · refine ifT c4 ?_
              have hds : 0 < ds.length := by
                rw [← lx]
                cases xs with
                | nil => cases c3
                | cons x xs => exact Nat.succ_pos _
              have hd1 := fn_depth fn
              obtain ⟨p', rfl⟩ : ∃ p', p = p' + 1 := ⟨p - 1, by omega⟩
              refine ⟨_, rfl, _, rfl, a, xs, rfl, .inr (SqT.of (s1 _ _ (hid_get ex).1 (hid_get ex).2)), ?_⟩
              refine ⟨t, N + 1, _, rfl, T1, by omega, by omega, by omega, fun at' H2 r20 r21 T2 e2' => ?_⟩
              obtain ⟨j, rfl⟩ : ∃ j : Nat, at' = j := ⟨at'.toNat, by omega⟩
              have hj : j < ds.length := by omega
              have s2 : Sm t H H2 := s1.trans (sm_eqT e2')
              have S2 : Sh t H2 (.ref a) (.tuple ds) := S1.sm (sm_eqT e2')
              have hT2 : HasT t H2 := by obtain ⟨_, _, _, _, q, _⟩ := id T2; exact ⟨_, q⟩
              refine ⟨_, rfl, _, rfl, _, rfl, _, hT2, S2, fun v3 H3 s3 S3 => ?_⟩
              obtain ⟨x, hx, sx⟩ := shAll_get ax (List.getElem?_eq_getElem hj)
              have s03 : Sm t H H3 := s2.trans (Sm.of s3)
              refine ⟨_, rfl, _, rfl, _, rfl, a, xs, _, x, rfl, rfl, SqT.of (s03 _ _ (hid_get ex).1 (hid_get ex).2), atI_nat hx, ?_⟩
              cases m with
              | zero => omega
              | succ m =>
                refine ⟨t, N + 2, x, ds[j], k, wd, ds[j].weight, p', rfl, T2.keep s3, by omega, Sh.sm sx s03, ib.elem _ (List.getElem_mem hj), fn_self (fn_elem fn (List.getElem_mem hj)), by omega, hk, by have := (fn_elem fn (List.getElem_mem hj)).wt; omega, fun v4 d4 H4 S4 g1 g2 T4 s4 => ?_⟩
                have hT4 : HasT t H4 := by obtain ⟨_, _, _, _, q, _⟩ := id T4; exact ⟨_, q⟩
                refine ⟨by show 1 ≤ sizeLine; decide, fun l5 hl5 => ?_⟩
                have s5 := same_laid (o := .tup [v4]) hl5
                have S5 := sh_tup (t := t) hT4 (.cons S4 .nil) hl5
                have l1 := cut_len ds none (some (j : Int))
                have l2 := cut_len ds (some ((j : Int) + 1)) none
                refine ⟨_, _, hT4.same s5, (S3.sm s4).same s5, S5, by show _ + 1 ≤ _; omega, fun v6 H6 s6 S6 => ?_⟩
                have s36 : Sm t H3 H6 := s4.trans ((Sm.of s5).trans (Sm.of s6))
                have hT6 := (hT4.same s5).same s6
                refine ⟨_, rfl, _, rfl, _, _, rfl, rfl, _, rfl, _, hT6, (S2.same s3).sm s36, fun v7 H7 s7 S7 => ?_⟩
                refine ⟨_, _, hT6.same s7, S6.same s7, S7, by rw [List.length_append]; show _ + 1 + _ ≤ _; omega, fun v8 H8 s8 S8 => ?_⟩
                obtain ⟨q1, q2⟩ := bentA hj ib fn g1 g2
                exact kk v8 _ H8 S8 q1 q2 ((T4.keep (s5.trans (s6.trans (s7.trans s8)))).mono (by omega)) (s03.trans (s36.trans (Sm.of (s7.trans s8))))
            · have c4' : (decide ((0 : Int) < r)) = false := by simpa using c4
              rw [c4']
              obtain ⟨N1, hN1, T1⟩ : ∃ N1, N1 ≤ N + 1 ∧ TapeAt H1 t N1 := ⟨_, Nat.le_refl _, T1⟩
              obtain ⟨ty', bi', bb', bt', hty', _, _, e3', _, e5', _, _⟩ := isi_of (K := K) S1.shows
              refine ifF rfl ?_
              refine ⟨_, rfl, _, _, ty', bt', rfl, hty', e3', bt', rfl, ifT e5' ?_⟩
              refine ⟨_, rfl, _, rfl, a, xs, rfl, .inr (SqT.of (s1 _ _ (hid_get ex).1 (hid_get ex).2)), _, _, rfl, rfl, t, N1, _, rfl, T1, by omega, by omega, by omega, fun r2 H2 r20 r21 T2 e2 => ?_⟩
              have S2 : Sh t H2 (.ref a) (.tuple ds) := S1.sm (sm_eqT e2)
              have hT2 : HasT t H2 := by obtain ⟨_, _, _, _, q, _⟩ := id T2; exact ⟨_, q⟩
              refine ⟨⟨hT2, rfl, S2, rfl, by show 2 * ds.length + 2 ≤ 1000000; omega⟩, fun v3 H3 s3 S3 => ?_⟩
              refine ⟨_, rfl, _, rfl, pick (E := E0) S3 (T2.keep s3) (by omega) rfl (by decide) (by decide) fun x d' H4 hd S4 T4 s4 => ?_⟩
              obtain ⟨g1, g2⟩ := lit5 r20 (by omega) ib fn hd
              exact kk x d' H4 S4 g1 g2 (T4.mono (by omega)) (s1.trans ((sm_eqT e2).trans ((Sm.of s3).trans s4)))
          · refine ifF (by simpa using c3) ?_
            have s1 : Sm t H H0 := Sm.of s0
            obtain ⟨H1, rfl⟩ : ∃ H1, H1 = H0 := ⟨_, rfl⟩
            have S1 := S0
            obtain ⟨N1, hN1, T1⟩ : ∃ N1, N1 ≤ N + 1 ∧ TapeAt H1 t N1 := ⟨_, Nat.le_succ _, T0⟩
            obtain ⟨ty', bi', bb', bt', hty', _, _, e3', _, e5', _, _⟩ := isi_of (K := K) S1.shows
            refine ifF rfl ?_
            refine ⟨_, rfl, _, _, ty', bt', rfl, hty', e3', bt', rfl, ifT e5' ?_⟩
            refine ⟨_, rfl, _, rfl, a, xs, rfl, .inr (SqT.of (s1 _ _ (hid_get ex).1 (hid_get ex).2)), _, _, rfl, rfl, t, N1, _, rfl, T1, by omega, by omega, by omega, fun r2 H2 r20 r21 T2 e2 => ?_⟩
            have S2 : Sh t H2 (.ref a) (.tuple ds) := S1.sm (sm_eqT e2)
            have hT2 : HasT t H2 := by obtain ⟨_, _, _, _, q, _⟩ := id T2; exact ⟨_, q⟩
            refine ⟨⟨hT2, rfl, S2, rfl, by show 2 * ds.length + 2 ≤ 1000000; omega⟩, fun v3 H3 s3 S3 => ?_⟩
            refine ⟨_, rfl, _, rfl, pick (E := E0) S3 (T2.keep s3) (by omega) rfl (by decide) (by decide) fun x d' H4 hd S4 T4 s4 => ?_⟩
            obtain ⟨g1, g2⟩ := lit5 r20 (by omega) ib fn hd
            exact kk x d' H4 S4 g1 g2 (T4.mono (by omega)) (s1.trans ((sm_eqT e2).trans ((Sm.of s3).trans s4)))
      have c1' : bt = false := by rw [e5]; simpa using c1
      refine ⟨_, rfl, _, _, ty, bt, rfl, hty, e3, bt, rfl, ifF c1' ?_⟩
      refine ifF rfl ?_
      refine ⟨_, rfl, _, _, ty, bt, rfl, hty, e3, bt, rfl, ifF c1' ?_⟩
      refine ⟨_, rfl, _, _, ty, bi, rfl, hty, e1, bi, rfl, ?_⟩
      by_cases c2 : numD d = true
      · obtain ⟨i, rfl, rfl⟩ := nD c2
        rw [c2] at e4
        have hi : i.natAbs ≤ k := by cases ib; assumption
        refine ifT (by cases bi with | true => rfl | false => cases e4) ?_
        refine ⟨_, rfl, _, _, ty, bb, rfl, hty, e2, bb, rfl, ifT (by cases bi with | true => exact e4 | false => cases e4) ?_⟩
        refine ⟨⟨hT, rfl, by show i.natAbs < _; omega⟩, fun v1 H1 s1 S1 => ?_⟩
        refine ⟨_, rfl, _, rfl, pick (E := E0) S1 (TT.keep s1) (by omega) rfl (by decide) (by decide) fun x d' H2 hd S2 T2 s2 => ?_⟩
        obtain ⟨g1, g2⟩ := lit10 (n := n) (p := p) hi hk hd
        exact kk x d' H2 S2 g1 g2 (T2.mono (by omega)) ((Sm.of s1).trans s2)
      have c2' : (bi && !bb) = false := by rw [e4]; simpa using c2
      cases bi with
      | false =>
        refine ifF rfl (ifF rfl ?_)
        refine ⟨hT, fun v1 H1 s1 S1 => ⟨_, rfl, pick (E := E0) S1 (TT.keep s1) (by omega) rfl (by decide) (by decide) fun x d' H2 hd S2 T2 s2 => ?_⟩⟩
        obtain ⟨g1, g2⟩ := lit9 (k := k) (n := n) (p := p) hd
        exact kk x d' H2 S2 g1 g2 (T2.mono (by omega)) ((Sm.of s1).trans s2)
      | true =>
        refine ifT rfl ⟨_, rfl, _, _, ty, bb, rfl, hty, e2, bb, rfl, ifF c2' ?_⟩
        refine ⟨hT, fun v1 H1 s1 S1 => ⟨_, rfl, pick (E := E0) S1 (TT.keep s1) (by omega) rfl (by decide) (by decide) fun x d' H2 hd S2 T2 s2 => ?_⟩⟩
        obtain ⟨g1, g2⟩ := lit9 (k := k) (n := n) (p := p) hd
        exact kk x d' H2 S2 g1 g2 (T2.mono (by omega)) ((Sm.of s1).trans s2)
end
/-! ### places and plans of any plain thing -/
theorem small_line {n : Nat} (h : n ≤ 100000) : n < sizeLine := Nat.lt_of_le_of_lt h (by decide)
def risI : List Int → Bool
  | a :: b :: r => decide (a < b) && risI (b :: r)
  | _ => true
theorem risI_at : ∀ (ms : List Int), risI ms = (List.range (ms.length - 1)).all fun k => decide (ms.getD k 0 < ms.getD (k + 1) 0)
  | [] => rfl
  | [_] => rfl
  | a :: b :: r => by
    show (decide (a < b) && risI (b :: r)) = _
    rw [risI_at (b :: r)]
    show _ = (List.range (r.length + 1)).all _
    rw [List.range_succ_eq_map, List.all_cons, List.all_map]
    rfl
theorem risI_iff : ∀ (ms : List Int), risI ms = true ↔ ms.Pairwise (· < ·)
  | [] => by simp [risI]
  | [_] => by simp [risI]
  | a :: b :: r => by
    have ih := risI_iff (b :: r)
    show (decide (a < b) && risI (b :: r)) = true ↔ _
    rw [Bool.and_eq_true, ih, decide_eq_true_iff, List.pairwise_cons (a := a)]
    constructor
    · rintro ⟨h1, h2⟩
      refine ⟨fun x hx => ?_, h2⟩
      rcases List.mem_cons.mp hx with rfl | hx
      · exact h1
      · have := (List.pairwise_cons.mp h2).1 x hx
        omega
    · rintro ⟨h1, h2⟩
      exact ⟨h1 b List.mem_cons_self, h2⟩
theorem dec_V {a b : Int} : decide (V.int a = V.int b) = decide (a = b) := by
  by_cases h : a = b
  · rw [decide_eq_true h, decide_eq_true (congrArg V.int h)]
  · rw [decide_eq_false h, decide_eq_false fun z => h (V.int.inj z)]
def nnD (d : PyData) : Bool := match d with
  | .int i => decide (0 ≤ i)
  | _ => false
def intOf (d : PyData) : Int := match d with
  | .int i => i
  | _ => 0
def placesD (d : PyData) : Bool := match d with
  | .tuple ds => !ds.isEmpty && (ds.all nnD && risI (ds.map intOf))
  | _ => false
def planD : Nat → PyData → Bool
  | 0, _ => false
  | m + 1, d => match d with
    | .tuple [p, .tuple ps] => placesD p && ps.all (planD m)
    | _ => false
theorem nn_ints : ∀ {ds : List PyData}, ds.all nnD = true → ds = (ds.map intOf).map PyData.int
  | [], _ => rfl
  | d :: ds, h => by
    rw [List.all_cons, Bool.and_eq_true] at h
    rw [List.map_cons, List.map_cons, ← nn_ints h.2]
    cases d with
    | int i => rfl
    | _ => cases h.1
theorem sh_int {H : Hp} : ∀ {xs : List V} {os : List Int}, ShowsAll H xs (os.map PyData.int) → xs = os.map V.int := by
  intro xs os h
  induction os generalizing xs with
  | nil => cases h; rfl
  | cons o os ih =>
    cases h with
    | cons a b =>
      cases a
      rw [ih b]
      rfl
def spRis : Sp := fun vs H Q _ => ∃ (p : Addr) (xs : List Int), vs = [.ref p] ∧ H p = some (.tup (xs.map V.int)) ∧ xs.length ≤ 1000 ∧ ∀ H', Same H H' → Q (.bl (risI xs)) H'
def spPp : Sp := fun vs H Q _ => ∃ (v : V) (d : PyData) (k l : Nat), vs = [v] ∧ Shows H v d ∧ IB k l d ∧ l < 64 ∧ ∀ H', Same H H' → Q (.bl (placesD d)) H'
def spPw (m : Nat) : Sp := fun vs H Q _ => ∃ (v : V) (d : PyData) (k l : Nat), vs = [v, .int m] ∧ Shows H v d ∧ IB k l d ∧ l < 64 ∧ ∀ H', Same H H' → Q (.bl (planD m d)) H'
section
variable {P : Program} {w : World} {K : PySem.W.Frag} {mg : Str → Option Value} {base : Heap}
theorem scRis : FnScope ["things"] ["things"] (defScope sRis) := ⟨rfl, rfl, rfl, by decide +kernel, rfl, by decide +kernel, by decide +kernel⟩
theorem ok_ris {f : Addr} {fd' : FuncData} (F : Fun K "is_rising" "is_rising" sRis f fd') (mLen : mg "len" = none) (mRange : mg "range" = none) (mAll : mg "all" = none) : FnOk P w K mg base CX0 1 f fd' ["things"] spRis := by
  refine F.ok scRis (fun vs H Q E h => ?_) (fun cdv A outer s H vs Q E hr h => ?_)
  · obtain ⟨p, xs, rfl, _⟩ := h
    rfl
  · obtain ⟨p, xs, rfl, hp, hl, k⟩ := h
    refine ⟨_, pss_one (ps_ret (pe_callB (call_all rfl) (by rfl) mAll (by decide +kernel) (pa_cons (pe_comp (own := ["k"]) (cn := ["things"]) (ci := [0]) rfl (csc rfl rfl) ⟨rfl, rfl, rfl, trivial⟩ rfl
      (pi_range2 rfl mRange (pa_cons pe_int (pa_cons (pe_callB call_len_seq (by rfl) mLen PySem.boot_len (pa_cons (pv 0) pa_nil)) pa_nil))) (fun _ _ _ _ => pg_name (i := 0) (nd_of rfl) rfl (Or.inl rfl)) (fun _ _ _ _ => pts_nil)
      (fun _ _ _ _ => pe_cmpR op_lt (pe_ix ix_tupC (pv 1) (pe_op op_sub (pv 0) pe_int) (fun _ _ => rfl)) (pe_ix ix_tupC (pv 1) (pv 0) (fun _ _ => rfl)) (nomark _))) pa_nil))), ?_⟩
    refine ⟨_, rfl, p, _, rfl, .inr (SqT.of hp), 1, _, rfl, ⟨by decide, by decide, by rw [List.length_map]; omega, by rw [List.length_map]; omega⟩, [.ref p], rfl, fun D hD => ?_⟩
    refine comp_range (lo := 1) (n := (((xs.map V.int).length : Int) - 1).toNat) (fun q ys H4 => q ≤ (((xs.map V.int).length : Int) - 1).toNat ∧ ys = ((List.range q).map fun k => decide (xs.getD k 0 < xs.getD (k + 1) 0)).map V.bl ∧ H4 = upd H D (.lst ys)) ⟨Nat.zero_le _, rfl, rfl⟩ (fun q ys H4 z => ?_) (fun q ys H4 hq z => ?_) (fun ys H4 z => ?_)
    · obtain ⟨hq, rfl, _⟩ := z
      rw [List.length_map] at hq
      rw [List.length_map, List.length_map, List.length_range]
      exact small_line (by omega)
    · obtain ⟨_, rfl, rfl⟩ := z
      rw [List.length_map] at hq
      have hp4 := same_laid (o := .lst (((List.range q).map fun k => decide (xs.getD k 0 < xs.getD (k + 1) 0)).map V.bl)) hD _ _ hp
      have h1 : q < xs.length := by omega
      have h2 : q + 1 < xs.length := by omega
      refine ⟨⟨rfl, rfl⟩, ?_⟩
      refine tyes ?_
      refine ⟨_, rfl, _, rfl, _, _, rfl, rfl, p, _, _, .int xs[q], rfl, rfl, SqT.of hp4, atI_in (by omega) (by rw [show ((1 : Int) + q - 1).toNat = q by omega, List.getElem?_map, List.getElem?_eq_getElem h1]; rfl), _, rfl, _, rfl, p, _, _, .int xs[q + 1], rfl, rfl, SqT.of hp4, atI_in (by omega) (by rw [show ((1 : Int) + q).toNat = q + 1 by omega, List.getElem?_map, List.getElem?_eq_getElem h2]; rfl), _, _, rfl, rfl, upd_same, by rw [List.length_map]; omega, ?_, upd_upd⟩
      have d1 : xs.getD q 0 = xs[q] := by rw [List.getD_eq_getElem?_getD, List.getElem?_eq_getElem h1]; rfl
      have d2 : xs.getD (q + 1) 0 = xs[q + 1] := by rw [List.getD_eq_getElem?_getD, List.getElem?_eq_getElem h2]; rfl
      rw [List.range_succ, List.map_append, List.map_append]
      show _ = _ ++ [V.bl (decide (xs.getD q 0 < xs.getD (q + 1) 0))]
      rw [d1, d2]
    · obtain ⟨_, rfl, rfl⟩ := z
      refine ⟨D, _, rfl, SqL.of upd_same, ?_⟩
      have e : (((List.range (((xs.map V.int).length : Int) - 1).toNat).map fun k => decide (xs.getD k 0 < xs.getD (k + 1) 0)).all id) = risI xs := by
        rw [risI_at, List.all_map, List.length_map, show ((xs.length : Int) - 1).toNat = xs.length - 1 by omega]
        rfl
      rw [e]
      exact k _ (same_laid hD)
theorem scPp : FnScope ["thing"] ["thing"] (defScope sPp) := ⟨rfl, rfl, rfl, by decide +kernel, rfl, by decide +kernel, by decide +kernel⟩
theorem ok_pp {f fN fR : Addr} {fd' fdN fdR : FuncData} (F : Fun K "are_plan_places" "are_plan_places" sPp f fd') (FN : Fun K "is_number" "is_number" sNum fN fdN) (bN : Binds K fdN ["thing"] []) (mN : mg "is_number" = some (.ref fN))
    (FR : Fun K "is_rising" "is_rising" sRis fR fdR) (bR : Binds K fdR ["things"] []) (mR : mg "is_rising" = some (.ref fR)) (mIsi : mg "isinstance" = none) (mInt : mg "int" = none) (mBool : mg "bool" = none) (mTuple : mg "tuple" = none) (mLen : mg "len" = none) (mRange : mg "range" = none) (mAll : mg "all" = none) :
    FnOk P w K mg base CX0 2 f fd' ["thing"] spPp := by
  have GN : FnOk P w K mg base CX0 1 fN fdN ["thing"] spNum := ok_num FN mIsi mInt mBool
  have GR : FnOk P w K mg base CX0 1 fR fdR ["things"] spRis := ok_ris FR mLen mRange mAll
  refine F.ok scPp (fun vs H Q E h => ?_) (fun cdv A outer s H vs Q E hr h => ?_)
  · obtain ⟨v, d, k, l, rfl, _⟩ := h
    rfl
  · obtain ⟨v, d, kb, lb, rfl, S, ib, hlb, k⟩ := h
    obtain ⟨t, bi, bb, bt, ty, _, _, e3, _, e5, _, ht⟩ := isi_of (K := K) S
    refine ⟨_, pss_cons (ps_if (PW.pt (pw_or (pt_not (pt_val (pe_callB call_isinst (by rfl) mIsi (by decide +kernel) (pa_cons (pv 0) (pa_cons (pe_tyN (T := "tuple") (by rfl) mTuple (by decide +kernel)) pa_nil))))) (pw_or1 (pt_cmpR op_eq (pe_callB call_len_seq (by rfl) mLen PySem.boot_len (pa_cons (pv 0) pa_nil)) pe_int (nomark _))))) (pss_one (ps_ret pe_bl)) pss_nil)
      (pss_one (ps_ret (pe_and (pe_callB (call_all rfl) (by rfl) mAll (by decide +kernel) (pa_cons (pe_comp (own := ["place"]) (cn := []) (ci := []) rfl (csc rfl rfl) trivial rfl (pi_tup (pv 0)) (fun _ _ _ _ => pg_name (i := 0) (nd_of rfl) rfl (Or.inl rfl)) (fun _ _ _ _ => pts_nil)
        (fun _ _ _ _ => pe_and (pe_call GN hr rfl mN FN.kp bN .nil pass0 (pa_cons (pv 0) pa_nil)) (pe_one (pe_cmpR op_ge (pv 0) pe_int (nomark _))))) pa_nil)) (pe_one (pe_call GR hr rfl mR FR.kp bR .nil pass0 (pa_cons (pv 0) pa_nil)))))), ?_⟩
    refine ⟨_, rfl, _, _, t, bt, rfl, ty, e3, bt, rfl, ?_⟩
    rw [e5]
    cases hn : tupD d with
    | false =>
      refine iteT (iteT ?_)
      have : placesD d = false := by cases d <;> first | rfl | cases hn
      rw [← this]
      exact k H (Same.refl _)
    | true =>
      refine iteF ?_
      obtain ⟨a, xs, ds, rfl, ha, rfl, al⟩ := ht hn
      have hxl := shAll_len al
      have hl64 : ds.length < 64 := Nat.lt_of_le_of_lt ib.len hlb
      have k' : ∀ (H' : Hp), Same H H' → Q (.bl (!ds.isEmpty && (ds.all nnD && risI (ds.map intOf)))) H' := k
      refine ⟨_, rfl, a, xs, rfl, .inr (SqT.of ha), rfl, _, rfl, ?_⟩
      rw [dec_V, hxl]
      by_cases c : ds = []
      · subst c
        exact ifT rfl (k' H (Same.refl _))
      have e0 : (!ds.isEmpty) = true := by cases ds with
        | nil => exact absurd rfl c
        | cons _ _ => rfl
      rw [e0, Bool.true_and] at k'
      have h0 : 0 < ds.length := List.length_pos_iff.mpr c
      refine ifF (decide_eq_false (by omega)) ?_
      refine ⟨_, rfl, a, rfl, ⟨_, SqT.of ha⟩, [], rfl, fun D hD => ?_⟩
      refine comp_tup (a := a) (xs := xs) (fun i ys H4 => ys = ((ds.take i).map nnD).map V.bl ∧ H4 = upd H D (.lst ys)) ⟨rfl, rfl⟩ (fun i ys H4 z => ?_) (fun i ys H4 z => ?_) (fun i x ys H4 hx z => ?_) (fun ys H4 z => ?_)
      · obtain ⟨_, rfl⟩ := z
        exact SqT.of (same_laid hD _ _ ha)
      · obtain ⟨rfl, _⟩ := z
        rw [List.length_map, List.length_map, List.length_take]
        exact small_line (by omega)
      · obtain ⟨rfl, rfl⟩ := z
        have hi : i < ds.length := by have := (List.getElem?_eq_some_iff.mp hx).1; omega
        obtain ⟨x', hx', Sx⟩ := shAll_get al (List.getElem?_eq_getElem hi)
        rw [hx] at hx'
        cases hx'
        have Sx1 := shows_keep (same_laid (o := .lst (((ds.take i).map nnD).map V.bl)) hD) Sx
        have et : ((ds.take (i + 1)).map nnD).map V.bl = ((ds.take i).map nnD).map V.bl ++ [V.bl (nnD ds[i])] := by
          rw [List.take_add_one, List.getElem?_eq_getElem hi, List.map_append, List.map_append]; rfl
        generalize ds[i] = d at Sx1 et
        refine ⟨⟨rfl, rfl⟩, ?_⟩
        refine tyes ?_
        refine ⟨_, rfl, x, d, rfl, Sx1, numD d, rfl, ?_⟩
        cases hnu : numD d with
        | false =>
          have : nnD d = false := by cases d <;> first | rfl | cases hnu
          rw [this] at et
          exact iteF ⟨upd_same, et.symm, upd_upd⟩
        | true =>
          obtain ⟨j, rfl⟩ : ∃ j, d = .int j := by cases d <;> first | exact ⟨_, rfl⟩ | cases hnu
          cases Sx1
          refine iteT ?_
          refine ⟨_, rfl, _, _, rfl, rfl, upd_same, ?_, upd_upd⟩
          rw [et]
          rfl
      · obtain ⟨rfl, rfl⟩ := z
        rw [hxl, List.take_of_length_le (Nat.le_refl _)]
        have ea : (ds.map nnD).all id = ds.all nnD := by rw [List.all_map]; rfl
        refine ⟨D, _, rfl, SqL.of upd_same, (ds.map nnD).all id, rfl, ?_⟩
        rw [ea]
        have s1 := same_laid (o := .lst ((ds.map nnD).map V.bl)) hD
        generalize upd H D (.lst ((ds.map nnD).map V.bl)) = H1 at s1 ⊢
        cases hall : ds.all nnD with
        | false =>
          rw [hall, Bool.false_and] at k'
          exact iteF (k' _ s1)
        | true =>
          rw [hall, Bool.true_and] at k'
          refine iteT ?_
          have hxs : xs = (ds.map intOf).map V.int := by
            rw [nn_ints hall] at al
            exact sh_int al
          rw [hxs] at ha
          exact ⟨_, rfl, a, ds.map intOf, rfl, s1 _ _ ha, by rw [List.length_map]; omega, fun H' s' => k' _ (s1.trans s')⟩
theorem scPw : FnScope ["thing", "most"] ["thing", "most"] (defScope sPw) := ⟨rfl, rfl, rfl, by decide +kernel, rfl, by decide +kernel, by decide +kernel⟩
theorem ok_pw {f fT fA : Addr} {fd' fdT fdA : FuncData} (F : Fun K "is_plan_within" "is_plan_within" sPw f fd') (bF : Binds K fd' ["thing", "most"] []) (mF : mg "is_plan_within" = some (.ref f)) (FT : Fun K "is_tuple_of" "is_tuple_of" sTof fT fdT) (bT : Binds K fdT ["thing", "count"] []) (mT : mg "is_tuple_of" = some (.ref fT))
    (FA : Fun K "are_plan_places" "are_plan_places" sPp fA fdA) (bA : Binds K fdA ["thing"] []) (mA : mg "are_plan_places" = some (.ref fA)) (GA0 : FnOk P w K mg base CX0 2 fA fdA ["thing"] spPp)
    (mIsi : mg "isinstance" = none) (mTuple : mg "tuple" = none) (mLen : mg "len" = none) (mAll : mg "all" = none) : ∀ m : Nat, FnOk P w K mg base CX0 (m + 3) f fd' ["thing", "most"] (spPw m)
  | 0 => by
    refine F.ok scPw (fun vs H Q E h => ?_) (fun cdv A outer s H vs Q E hr h => ?_)
    · obtain ⟨v, d, k, l, rfl, _⟩ := h
      rfl
    · obtain ⟨v, d, kb, lb, rfl, S, ib, hlb, k⟩ := h
      have GT : FnOk P w K mg base CX0 2 fT fdT ["thing", "count"] spTof := (ok_tof FT mIsi mTuple mLen).mono (by omega)
      refine ⟨_, pss_cons (ps_if (PW.pt (pw_or (pt_cmpR op_eq (pv 1) pe_int (nomark _)) (pw_or (pt_not (pt_val (pe_call GT hr rfl mT FT.kp bT .nil pass0 (pa_cons (pv 0) (pa_cons pe_int pa_nil))))) (pw_or1 (pt_not (pt_val (pe_callB call_isinst (by rfl) mIsi (by decide +kernel) (pa_cons (pe_ix ix_tup (pv 0) pe_int (fun _ _ => rfl)) (pa_cons (pe_tyN (T := "tuple") (by rfl) mTuple (by decide +kernel)) pa_nil))))))))) (pss_one (ps_ret pe_bl)) pss_nil)
        (pss_one ps_no), ?_⟩
      refine ⟨_, rfl, rfl, _, rfl, ifT rfl (ifT rfl ?_)⟩
      exact k H (Same.refl _)
  | m + 1 => by
    have GP := ok_pw F bF mF FT bT mT FA bA mA GA0 mIsi mTuple mLen mAll m
    have GT : FnOk P w K mg base CX0 (m + 3) fT fdT ["thing", "count"] spTof := (ok_tof FT mIsi mTuple mLen).mono (by omega)
    have GA : FnOk P w K mg base CX0 (m + 3) fA fdA ["thing"] spPp := GA0.mono (by omega)
    refine F.ok scPw (fun vs H Q E h => ?_) (fun cdv A outer s H vs Q E hr h => ?_)
    · obtain ⟨v, d, k, l, rfl, _⟩ := h
      rfl
    · obtain ⟨v, d, kb, lb, rfl, S, ib, hlb, k⟩ := h
      refine ⟨_, pss_cons (ps_if (PW.pt (pw_or (pt_cmpR op_eq (pv 1) pe_int (nomark _)) (pw_or (pt_not (pt_val (pe_call GT hr rfl mT FT.kp bT .nil pass0 (pa_cons (pv 0) (pa_cons pe_int pa_nil))))) (pw_or1 (pt_not (pt_val (pe_callB call_isinst (by rfl) mIsi (by decide +kernel) (pa_cons (pe_ix ix_tup (pv 0) pe_int (fun _ _ => rfl)) (pa_cons (pe_tyN (T := "tuple") (by rfl) mTuple (by decide +kernel)) pa_nil))))))))) (pss_one (ps_ret pe_bl)) pss_nil)
        (pss_one (ps_ret (pe_and (pe_call GA hr rfl mA FA.kp bA .nil pass0 (pa_cons (pe_ix ix_tup (pv 0) pe_int (fun _ _ => rfl)) pa_nil))
          (pe_one (pe_callB (call_all rfl) (by rfl) mAll (by decide +kernel) (pa_cons (pe_comp (own := ["plan"]) (cn := ["most"]) (ci := [1]) rfl (csc rfl rfl) ⟨rfl, rfl, rfl, trivial⟩ rfl (pi_tup (pe_ix ix_tup (pv 0) pe_int (fun _ _ => rfl))) (fun _ _ _ _ => pg_name (i := 0) (nd_of rfl) rfl (Or.inl rfl)) (fun _ _ _ _ => pts_nil)
            (fun _ _ _ _ => pe_call GP hr rfl mF F.kp bF .nil pass0 (pa_cons (pv 0) (pa_cons (pe_op op_sub (pv 1) pe_int) pa_nil)))) pa_nil)))))), ?_⟩
      refine ⟨_, rfl, rfl, _, rfl, ?_⟩
      rw [dec_V]
      refine ifF (decide_eq_false (by omega)) ?_
      refine ⟨_, rfl, v, d, 2, rfl, S, tupN d 2, rfl, ?_⟩
      cases hn : tupN d 2 with
      | false =>
        refine iteT (iteT ?_)
        have : planD (m + 1) d = false := by
          unfold planD
          split
          · cases hn
          · rfl
        rw [← this]
        exact k H (Same.refl _)
      | true =>
        refine iteF ?_
        obtain ⟨x, y, rfl⟩ : ∃ x y, d = .tuple [x, y] := by
          cases d with
          | tuple ds =>
            have hn' : decide ((ds.length : Int) = 2) = true := hn
            have hl : ds.length = 2 := by have := of_decide_eq_true hn'; omega
            match ds, hl with
            | [x, y], _ => exact ⟨x, y, rfl⟩
          | _ => cases hn
        have be := ib.elem
        cases S with
        | tup ea al =>
          cases al with
          | cons s1 al => cases al with
            | cons s2 al =>
              cases al
              have hta := SqT.of (K := K) ea
              obtain ⟨t, bi, bb, bt, ty, _, _, e3, _, e5, _, ht⟩ := isi_of (K := K) s2
              refine ⟨_, rfl, _, _, _, _, rfl, rfl, hta, rfl, _, _, t, bt, rfl, ty, e3, bt, rfl, ?_⟩
              rw [e5]
              cases hy : tupD y with
              | false =>
                refine iteT ?_
                have : planD (m + 1) (.tuple [x, y]) = false := by cases y <;> first | rfl | cases hy
                rw [← this]
                exact k H (Same.refl _)
              | true =>
                refine iteF ?_
                obtain ⟨c, zs, es, rfl, hc, rfl, bl⟩ := ht hy
                have hzl := shAll_len bl
                have iy : IB kb lb (.tuple es) := be _ (by simp)
                have hl64 : es.length < 64 := Nat.lt_of_le_of_lt iy.len hlb
                have k' : ∀ (H' : Hp), Same H H' → Q (.bl (placesD x && es.all (planD m))) H' := k
                refine ⟨_, rfl, _, _, _, _, rfl, rfl, hta, rfl, _, x, kb, lb, rfl, s1, be _ (by simp), hlb, fun H1 s01 => ?_⟩
                refine ⟨placesD x, rfl, ?_⟩
                cases hp : placesD x with
                | false =>
                  rw [hp, Bool.false_and] at k'
                  exact iteF (k' _ s01)
                | true =>
                  rw [hp, Bool.true_and] at k'
                  refine iteT ?_
                  refine ⟨_, rfl, _, _, _, _, rfl, rfl, SqT.of (s01 _ _ ea), rfl, c, rfl, ⟨_, SqT.of (s01 _ _ hc)⟩, [.int ((m + 1 : Nat) : Int)], rfl, fun D hD => ?_⟩
                  refine comp_tup (a := c) (xs := zs) (fun i ys H4 => ys = ((es.take i).map (planD m)).map V.bl ∧ Same H1 H4 ∧ H4 D = some (.lst ys)) ⟨rfl, same_laid hD, upd_same⟩ (fun i ys H4 z => ?_) (fun i ys H4 z => ?_) (fun i x ys H4 hx z => ?_) (fun ys H4 z => ?_)
                  · obtain ⟨_, s4, _⟩ := z
                    exact SqT.of (s4 _ _ (s01 _ _ hc))
                  · obtain ⟨rfl, _⟩ := z
                    rw [List.length_map, List.length_map, List.length_take]
                    exact small_line (by omega)
                  · obtain ⟨rfl, s4, h4⟩ := z
                    have hi : i < es.length := by have := (List.getElem?_eq_some_iff.mp hx).1; omega
                    obtain ⟨x', hx', Sx⟩ := shAll_get bl (List.getElem?_eq_getElem hi)
                    rw [hx] at hx'
                    cases hx'
                    refine ⟨⟨rfl, rfl⟩, ?_⟩
                    refine tyes ?_
                    refine ⟨_, rfl, _, rfl, _, _, rfl, rfl, x, es[i], kb, lb, ?_, shows_keep (s01.trans s4) Sx, iy.elem _ (List.getElem_mem hi), hlb, fun H5 s5 => ⟨s5 _ _ h4, ?_, same_chg (s4.trans s5) hD, upd_same⟩⟩
                    · show [x, V.int (((m + 1 : Nat) : Int) - 1)] = [x, V.int (m : Int)]
                      rw [show (((m + 1 : Nat) : Int) - 1) = (m : Int) by omega]
                    · rw [List.take_add_one, List.getElem?_eq_getElem hi, List.map_append, List.map_append]; rfl
                  · obtain ⟨rfl, s4, h4⟩ := z
                    rw [hzl, List.take_of_length_le (Nat.le_refl _)] at h4
                    refine ⟨D, (es.map (planD m)), rfl, SqL.of h4, ?_⟩
                    have ea : (es.map (planD m)).all id = es.all (planD m) := by rw [List.all_map]; rfl
                    rw [ea]
                    exact k' _ (s01.trans s4)
end
section
variable {X : Cx} {pl : List (Addr × Obj)} {N' : List Str} {sc : Scope} {fp : List Addr} {s3 : Shared} {H3 : Hp}
theorem call_isinstC : CallR (cxComp X pl N' sc fp s3 H3) (.builtin "isinstance") (fun xs H Q => ∃ x T t b, xs = [x, .ty T] ∧ TyOf X.K H x t ∧ PySem.W.kitOne X.K t (.type T) = some b ∧ Q (.bl b) H) := call_isinst
end
theorem nums_of : ∀ {ds : List PyData}, ds.all numD = true → ∃ os : List Int, ds = os.map PyData.int
  | [], _ => ⟨[], rfl⟩
  | d :: ds, h => by
    rw [List.all_cons, Bool.and_eq_true] at h
    obtain ⟨os, rfl⟩ := nums_of h.2
    cases d with
    | int i => exact ⟨i :: os, rfl⟩
    | _ => cases h.1
/-! ### the law's own look at plans -/
theorem nn_rise : ∀ {is : List Int} (h : is ≠ []), ((is.map PyData.int).all nnD && risI is) = (decide (0 ≤ is.head h) && risI is)
  | [], h => absurd rfl h
  | i :: is, _ => by
    show ((decide (0 ≤ i) && (is.map PyData.int).all nnD) && risI (i :: is)) = (decide (0 ≤ i) && risI (i :: is))
    cases hr : risI (i :: is) with
    | false => rw [Bool.and_false, Bool.and_false]
    | true =>
      rw [Bool.and_true, Bool.and_true]
      by_cases c : 0 ≤ i
      · rw [decide_eq_true c, Bool.true_and]
        refine List.all_eq_true.mpr fun d hd => ?_
        obtain ⟨j, hj, rfl⟩ := List.mem_map.mp hd
        have := (List.pairwise_cons.mp ((risI_iff _).mp hr)).1 j hj
        show decide (0 ≤ j) = true
        exact decide_eq_true (by omega)
      · rw [decide_eq_false c, Bool.false_and]
theorem nn_num {d : PyData} (h : nnD d = true) : numD d = true := by cases d <;> first | rfl | cases h
theorem int_of (os : List Int) : (os.map PyData.int).map intOf = os := by
  rw [List.map_map]
  induction os with
  | nil => rfl
  | cons o os ih => rw [List.map_cons, ih]; rfl
theorem rise_ris {xs ms : List Int} (hr : ms.Pairwise (· < ·)) (hm : ∀ z : Int, z ∈ ms ↔ z ∈ xs) : decide (xs = ms) = risI xs := by
  rw [Bool.eq_iff_iff, decide_eq_true_iff, risI_iff]
  constructor
  · rintro rfl; exact hr
  · intro h; exact rise_same h hr fun z => (hm z).symm
theorem flat_bl (bs : List Bool) : (bs.map V.bl).all flatV = true := List.all_eq_true.mpr fun x hx => by
  obtain ⟨b, _, rfl⟩ := List.mem_map.mp hx
  rfl
theorem notin_all {α : Type} {p : α → Bool} (es : List α) : (if true = true then !inV (.bl false) ((es.map p).map V.bl) else inV (.bl false) ((es.map p).map V.bl)) = es.all p := by
  rw [if_pos rfl]
  induction es with
  | nil => rfl
  | cons x es ih =>
    have : inV (.bl false) (((x :: es).map p).map V.bl) = ((p x == false) || inV (.bl false) ((es.map p).map V.bl)) := rfl
    rw [this, List.all_cons, ← ih]
    cases p x <;> rfl
def spLp (m : Nat) : Sp := fun vs H Q _ => ∃ (v : V) (d : PyData) (k l : Nat), vs = [v, .int (25 - (m : Int))] ∧ Shows H v d ∧ IB k l d ∧ l < 64 ∧ m ≤ 24 ∧ ∀ H', Same H H' → Q (.bl (planD m d)) H'
section
variable {P : Program} {w : World} {K : PySem.W.Frag} {mg : Str → Option Value} {base : Heap}
theorem scLq : FnScope ["_law_thing"] ["_law_thing"] (defScope sLq) := ⟨rfl, rfl, rfl, by decide +kernel, rfl, by decide +kernel, by decide +kernel⟩
theorem ok_lq {f : Addr} {fd' : FuncData} (F : Fun K "_law_is_places" "_law_is_places" sLq f fd') (mIsi : mg "isinstance" = none) (mInt : mg "int" = none) (mBool : mg "bool" = none) (mTuple : mg "tuple" = none) (mLen : mg "len" = none) (mSorted : mg "sorted" = none) (mSet : mg "set" = none) :
    FnOk P w K mg base CX0 1 f fd' ["_law_thing"] spPp := by
  refine F.ok scLq (fun vs H Q E h => ?_) (fun cdv A outer s H vs Q E hr h => ?_)
  · obtain ⟨v, d, k, l, rfl, _⟩ := h
    rfl
  · obtain ⟨v, d, kb, lb, rfl, S, ib, hlb, k⟩ := h
    have hu0 := hr.units0
    obtain ⟨t, bi, bb, bt, ty, _, _, e3, _, e5, _, ht⟩ := isi_of (K := K) S
    refine ⟨_, pss_cons (ps_if (PW.pt (pw_or (pt_not (pt_val (pe_callB call_isinst (by rfl) mIsi (by decide +kernel) (pa_cons (pv 0) (pa_cons (pe_tyN (T := "tuple") (by rfl) mTuple (by decide +kernel)) pa_nil))))) (pw_or1 (pt_cmpR op_eq (pe_callB call_len_seq (by rfl) mLen PySem.boot_len (pa_cons (pv 0) pa_nil)) pe_int (nomark _))))) (pss_one (ps_ret pe_bl)) pss_nil)
      (pss_cons (ps_if (pt_cmpR (op_neE hu0) (pe_comp (own := ["_law_one"]) (cn := []) (ci := []) rfl (csc rfl rfl) trivial rfl (pi_tup (pv 0)) (fun _ _ _ _ => pg_name (i := 0) (nd_of rfl) rfl (Or.inl rfl))
          (fun _ _ _ _ => pts_one (PW.pt (pw_or (pt_not (pt_val (pe_callB call_isinstC (by rfl) mIsi (by decide +kernel) (pa_cons (pv 0) (pa_cons (pe_tyN (T := "int") (by rfl) mInt (by decide +kernel)) pa_nil))))) (pw_or1 (pt_val (pe_callB call_isinstC (by rfl) mIsi (by decide +kernel) (pa_cons (pv 0) (pa_cons (pe_tyN (T := "bool") (by rfl) mBool (by decide +kernel)) pa_nil)))))))) (fun _ _ _ _ => pv 0)) (pe_lst pa_nil) (nomark _)) (pss_one (ps_ret pe_bl)) pss_nil)
      (pss_one (ps_ret (pe_and (pe_cmpR op_ge (pe_ix ix_tup (pv 0) pe_int (fun _ _ => rfl)) pe_int (nomark _)) (pe_one (pe_cmpR (op_eqT hu0) (pv 0) (pe_callTy call_tuple_of (by rfl) mTuple (by decide +kernel) (pa_cons (pe_sortedSet rfl rfl mSorted rfl mSet (pa_cons (pv 0) pa_nil)) pa_nil)) (nomark _))))))), ?_⟩
    refine ⟨_, rfl, _, _, t, bt, rfl, ty, e3, bt, rfl, ?_⟩
    rw [e5]
    cases hn : tupD d with
    | false =>
      refine iteT (iteT ?_)
      have : placesD d = false := by cases d <;> first | rfl | cases hn
      rw [← this]
      exact k H (Same.refl _)
    | true =>
      refine iteF ?_
      obtain ⟨a, xs, ds, rfl, ha, rfl, al⟩ := ht hn
      have hxl := shAll_len al
      have hl64 : ds.length < 64 := Nat.lt_of_le_of_lt ib.len hlb
      have k' : ∀ (H' : Hp), Same H H' → Q (.bl (!ds.isEmpty && (ds.all nnD && risI (ds.map intOf)))) H' := k
      refine ⟨_, rfl, a, xs, rfl, .inr (SqT.of ha), rfl, _, rfl, ?_⟩
      rw [dec_V, hxl]
      by_cases c : ds = []
      · subst c
        exact ifT rfl (k' H (Same.refl _))
      have e0 : (!ds.isEmpty) = true := by cases ds with
        | nil => exact absurd rfl c
        | cons _ _ => rfl
      rw [e0, Bool.true_and] at k'
      have h0 : 0 < ds.length := List.length_pos_iff.mpr c
      refine ifF (decide_eq_false (by omega)) ?_
      refine ⟨_, rfl, a, rfl, ⟨_, SqT.of ha⟩, [], rfl, fun D hD => ?_⟩
      refine comp_tup (a := a) (xs := xs) (fun i ys H4 => (ys = [] ↔ (ds.take i).all numD = true) ∧ ys.length ≤ (ds.take i).length ∧ H4 = upd H D (.lst ys)) ⟨⟨fun _ => rfl, fun _ => rfl⟩, Nat.zero_le _, rfl⟩ (fun i ys H4 z => ?_) (fun i ys H4 z => ?_) (fun i x ys H4 hx z => ?_) (fun ys H4 z => ?_)
      · obtain ⟨_, _, rfl⟩ := z
        exact SqT.of (same_laid hD _ _ ha)
      · obtain ⟨_, hl, _⟩ := z
        rw [List.length_take] at hl
        exact small_line (by omega)
      · obtain ⟨hy, hl, rfl⟩ := z
        have hi : i < ds.length := by have := (List.getElem?_eq_some_iff.mp hx).1; omega
        obtain ⟨x', hx', Sx⟩ := shAll_get al (List.getElem?_eq_getElem hi)
        rw [hx] at hx'
        cases hx'
        have Sx1 := shows_keep (same_laid (o := .lst ys) hD) Sx
        obtain ⟨tx, xi, xb, xt, tyx, x1, x2, _, x4, _⟩ := isi_of (K := K) Sx1
        have et : (ds.take (i + 1)).all numD = ((ds.take i).all numD && numD ds[i]) := by
          rw [List.take_add_one, List.getElem?_eq_getElem hi, List.all_append]
          show ((ds.take i).all numD && (numD ds[i] && true)) = _
          rw [Bool.and_true]
        refine ⟨⟨rfl, rfl⟩, ?_⟩
        refine ⟨_, rfl, _, _, tx, xi, rfl, tyx, x1, xi, rfl, ?_⟩
        have yes : numD ds[i] = true → (ys = [] ↔ (ds.take (i + 1)).all numD = true) ∧ ys.length ≤ (ds.take (i + 1)).length ∧ upd H D (.lst ys) = upd H D (.lst ys) := fun e => ⟨by rw [et, e, Bool.and_true]; exact hy, by rw [List.length_take] at hl ⊢; omega, rfl⟩
        have no : numD ds[i] = false → (ys ++ [x] = [] ↔ (ds.take (i + 1)).all numD = true) ∧ (ys ++ [x]).length ≤ (ds.take (i + 1)).length ∧ upd (upd H D (.lst ys)) D (.lst (ys ++ [x])) = upd H D (.lst (ys ++ [x])) := fun e => ⟨by rw [et, e, Bool.and_false]; simp, by rw [List.length_append, List.length_take]; rw [List.length_take] at hl; show ys.length + 1 ≤ _; omega, upd_upd⟩
        cases xi with
        | false =>
          refine iteT (iteT ?_)
          exact ⟨_, rfl, upd_same, no (by rw [← x4]; rfl)⟩
        | true =>
          refine iteF ?_
          refine ⟨_, rfl, _, _, tx, xb, rfl, tyx, x2, xb, rfl, ?_⟩
          cases xb with
          | true => exact iteT ⟨_, rfl, upd_same, no (by rw [← x4]; rfl)⟩
          | false => exact iteF (yes (by rw [← x4]; rfl))
      · obtain ⟨hy, hl, rfl⟩ := z
        rw [hxl, List.take_of_length_le (Nat.le_refl _)] at hy
        refine ⟨Nat.zero_le _, fun b hb => ?_⟩
        have sb := (same_laid (o := .lst ys) hD).trans (same_laid (o := .lst []) hb)
        have hD2 : (upd (upd H D (.lst ys)) b (.lst [])) D = some (.lst ys) := same_laid hb _ _ upd_same
        refine ⟨D, b, ys, rfl, rfl, SqL.of hD2, SqL.of upd_same, _, rfl, ?_⟩
        generalize upd (upd H D (.lst ys)) b (.lst []) = H5 at sb ⊢
        cases hall : ds.all numD with
        | false =>
          have hne : ys ≠ [] := fun z => by have := hy.mp z; rw [hall] at this; cases this
          have e1 : (!ys.isEmpty) = true := by cases ys with
            | nil => exact absurd rfl hne
            | cons _ _ => rfl
          have hnn : ds.all nnD = false := by
            cases hh : ds.all nnD with
            | false => rfl
            | true =>
              have : ds.all numD = true := List.all_eq_true.mpr fun d hd => nn_num (List.all_eq_true.mp hh d hd)
              rw [this] at hall
              cases hall
          rw [hnn, Bool.false_and] at k'
          exact ifT e1 (k' _ sb)
        | true =>
          have he : ys = [] := hy.mpr hall
          subst he
          refine ifF rfl ?_
          obtain ⟨os, rfl⟩ := nums_of hall
          have hxs := sh_int al
          subst hxs
          rw [List.length_map] at hl64
          rw [int_of] at k'
          have hos : os ≠ [] := fun z => by subst z; exact c rfl
          rw [nn_rise hos] at k'
          have hat : atI (os.map V.int) 0 = some (.int (os.head hos)) := by cases os with
            | nil => exact absurd rfl hos
            | cons o os => exact atI_in (by decide) rfl
          refine ⟨_, rfl, a, _, _, _, rfl, rfl, SqT.of (sb _ _ ha), hat, _, _, rfl, rfl, _, rfl, ?_⟩
          by_cases c0 : 0 ≤ os.head hos
          · rw [decide_eq_true c0, Bool.true_and] at k'
            refine ifT (decide_eq_true c0) ?_
            refine ⟨_, rfl, _, rfl, a, os, rfl, .inr (SqT.of (sb _ _ ha)), hl64, fun l ms hl2 hrm hmm => ?_⟩
            refine ⟨l, _, rfl, .inl ⟨SqL.of upd_same, fun l2 hl3 => ?_⟩⟩
            have s2 := (same_laid (o := .lst (ms.map V.int)) hl2).trans (same_laid (o := .tup (ms.map V.int)) hl3)
            refine ⟨a, l2, os, ms, rfl, rfl, SqT.of (s2 _ _ (sb _ _ ha)), SqT.of upd_same, ?_⟩
            show Q (.bl (decide (os = ms))) _
            rw [rise_ris hrm hmm]
            exact k' _ (sb.trans s2)
          · rw [decide_eq_false c0, Bool.false_and] at k'
            exact ifF (decide_eq_false c0) (k' _ sb)
theorem scLp : FnScope ["_law_thing", "_law_deep_here"] ["_law_thing", "_law_deep_here"] (defScope sLp) := ⟨rfl, rfl, rfl, by decide +kernel, rfl, by decide +kernel, by decide +kernel⟩
theorem ok_lp {f fA : Addr} {fd' fdA : FuncData} (F : Fun K "_law_is_plan" "_law_is_plan" sLp f fd') (bF : Binds K fd' ["_law_thing", "_law_deep_here"] []) (mF : mg "_law_is_plan" = some (.ref f))
    (FA : Fun K "_law_is_places" "_law_is_places" sLq fA fdA) (bA : Binds K fdA ["_law_thing"] []) (mA : mg "_law_is_places" = some (.ref fA)) (GA0 : FnOk P w K mg base CX0 1 fA fdA ["_law_thing"] spPp)
    (mIsi : mg "isinstance" = none) (mTuple : mg "tuple" = none) (mLen : mg "len" = none) : ∀ m : Nat, FnOk P w K mg base CX0 (m + 2) f fd' ["_law_thing", "_law_deep_here"] (spLp m)
  | 0 => by
    refine F.ok scLp (fun vs H Q E h => ?_) (fun cdv A outer s H vs Q E hr h => ?_)
    · obtain ⟨v, d, k, l, rfl, _⟩ := h
      rfl
    · obtain ⟨v, d, kb, lb, rfl, S, ib, hlb, _, k⟩ := h
      refine ⟨_, pss_cons (ps_if (PW.pt (pw_or (pt_cmpR op_gt (pv 1) pe_int (nomark _)) (pw_or (pt_not (pt_val (pe_callB call_isinst (by rfl) mIsi (by decide +kernel) (pa_cons (pv 0) (pa_cons (pe_tyN (T := "tuple") (by rfl) mTuple (by decide +kernel)) pa_nil))))) (pw_or (pt_cmp (pc_neI (pe_callB call_len_seq (by rfl) mLen PySem.boot_len (pa_cons (pv 0) pa_nil)) pe_int)) (pw_or1 (pt_not (pt_val (pe_call GA0 hr rfl mA FA.kp bA .nil pass0 (pa_cons (pe_ix ix_tup (pv 0) pe_int (fun _ _ => rfl)) pa_nil)))))))) ) (pss_one (ps_ret pe_bl)) pss_nil)
        (pss_one ps_no), ?_⟩
      refine ⟨_, rfl, _, _, rfl, rfl, _, rfl, ifT rfl (ifT rfl ?_)⟩
      exact k H (Same.refl _)
  | m + 1 => by
    have GP := ok_lp F bF mF FA bA mA GA0 mIsi mTuple mLen m
    have GA : FnOk P w K mg base CX0 (m + 2) fA fdA ["_law_thing"] spPp := GA0.mono (by omega)
    refine F.ok scLp (fun vs H Q E h => ?_) (fun cdv A outer s H vs Q E hr h => ?_)
    · obtain ⟨v, d, k, l, rfl, _⟩ := h
      rfl
    · obtain ⟨v, d, kb, lb, rfl, S, ib, hlb, hm, k⟩ := h
      refine ⟨_, pss_cons (ps_if (PW.pt (pw_or (pt_cmpR op_gt (pv 1) pe_int (nomark _)) (pw_or (pt_not (pt_val (pe_callB call_isinst (by rfl) mIsi (by decide +kernel) (pa_cons (pv 0) (pa_cons (pe_tyN (T := "tuple") (by rfl) mTuple (by decide +kernel)) pa_nil))))) (pw_or (pt_cmp (pc_neI (pe_callB call_len_seq (by rfl) mLen PySem.boot_len (pa_cons (pv 0) pa_nil)) pe_int)) (pw_or1 (pt_not (pt_val (pe_call GA hr rfl mA FA.kp bA .nil pass0 (pa_cons (pe_ix ix_tup (pv 0) pe_int (fun _ _ => rfl)) pa_nil)))))))) ) (pss_one (ps_ret pe_bl)) pss_nil)
        (pss_one (ps_ret (pe_and (pe_callB call_isinst (by rfl) mIsi (by decide +kernel) (pa_cons (pe_ix ix_tup (pv 0) pe_int (fun _ _ => rfl)) (pa_cons (pe_tyN (T := "tuple") (by rfl) mTuple (by decide +kernel)) pa_nil)))
          (pe_one (pe_cmpR op_notIn_seq pe_bl (pe_comp (own := ["_law_one"]) (cn := ["_law_deep_here"]) (ci := [1]) rfl (csc rfl rfl) ⟨rfl, rfl, rfl, trivial⟩ rfl (pi_tup (pe_ix ix_tup (pv 0) pe_int (fun _ _ => rfl))) (fun _ _ _ _ => pg_name (i := 0) (nd_of rfl) rfl (Or.inl rfl)) (fun _ _ _ _ => pts_nil)
            (fun _ _ _ _ => pe_call GP hr rfl mF F.kp bF .nil pass0 (pa_cons (pv 0) (pa_cons (pe_op op_add (pv 1) pe_int) pa_nil)))) (by with_unfolding_all rfl)))))), ?_⟩
      refine ⟨_, rfl, _, _, rfl, rfl, _, rfl, ifF (decide_eq_false (by omega)) ?_⟩
      obtain ⟨t, bi, bb, bt, ty, _, _, e3, _, e5, _, ht⟩ := isi_of (K := K) S
      refine ⟨_, rfl, _, _, t, bt, rfl, ty, e3, bt, rfl, ?_⟩
      rw [e5]
      cases hn : tupD d with
      | false =>
        refine iteT (iteT ?_)
        have : planD (m + 1) d = false := by cases d <;> first | rfl | cases hn
        rw [← this]
        exact k H (Same.refl _)
      | true =>
        refine iteF ?_
        obtain ⟨a, xs, ds, rfl, ha, rfl, al⟩ := ht hn
        have hxl := shAll_len al
        refine ⟨_, rfl, a, xs, rfl, .inr (SqT.of ha), _, _, rfl, rfl, _, rfl, ?_⟩
        by_cases c : ds.length = 2
        case neg =>
          refine ifT (by simp; omega) (iteT ?_)
          have : planD (m + 1) (.tuple ds) = false := by
            unfold planD
            split
            · rename_i h; cases h; exact absurd rfl c
            · rfl
          rw [← this]
          exact k H (Same.refl _)
        refine ifF (by simp; omega) ?_
        obtain ⟨x, y, rfl⟩ : ∃ x y, ds = [x, y] := by
          match ds, c with
          | [x, y], _ => exact ⟨x, y, rfl⟩
        have be := ib.elem
        cases al with
        | cons s1 al => cases al with
          | cons s2 al =>
            cases al
            have hta := SqT.of (K := K) ha
            refine ⟨_, rfl, _, _, _, _, rfl, rfl, hta, rfl, _, x, kb, lb, rfl, s1, be _ (by simp), hlb, fun H1 s01 => ?_⟩
            refine ⟨placesD x, rfl, ?_⟩
            obtain ⟨t2, bi2, bb2, bt2, ty2, _, _, f3, _, f5, _, ht2⟩ := isi_of (K := K) (shows_keep s01 s2)
            cases hp : placesD x with
            | false =>
              refine iteT ?_
              have : planD (m + 1) (.tuple [x, y]) = false := by
                cases y with
                | tuple es =>
                  show (placesD x && _) = false
                  rw [hp, Bool.false_and]
                | _ => rfl
              rw [← this]
              exact k _ s01
            | true =>
              refine iteF ?_
              refine ⟨_, rfl, _, _, _, _, rfl, rfl, SqT.of (s01 _ _ ha), rfl, _, _, t2, bt2, rfl, ty2, f3, bt2, rfl, ?_⟩
              rw [f5]
              cases hy : tupD y with
              | false =>
                refine iteF ?_
                have : planD (m + 1) (.tuple [x, y]) = false := by cases y <;> first | rfl | cases hy
                rw [← this]
                exact k _ s01
              | true =>
                refine iteT ?_
                obtain ⟨c', zs, es, rfl, hc, rfl, bl⟩ := ht2 hy
                have hzl := shAll_len bl
                have iy : IB kb lb (.tuple es) := be _ (by simp)
                have hl64 : es.length < 64 := Nat.lt_of_le_of_lt iy.len hlb
                have k' : ∀ (H' : Hp), Same H H' → Q (.bl (es.all (planD m))) H' := by
                  have : planD (m + 1) (.tuple [x, .tuple es]) = (placesD x && es.all (planD m)) := rfl
                  rw [this, hp, Bool.true_and] at k
                  exact k
                refine ⟨_, rfl, _, _, _, _, rfl, rfl, SqT.of (s01 _ _ ha), rfl, c', rfl, ⟨_, SqT.of hc⟩, [.int (25 - ((m + 1 : Nat) : Int))], rfl, fun D hD => ?_⟩
                refine comp_tup (a := c') (xs := zs) (fun i ys H4 => ys = ((es.take i).map (planD m)).map V.bl ∧ Same H1 H4 ∧ H4 D = some (.lst ys)) ⟨rfl, same_laid hD, upd_same⟩ (fun i ys H4 z => ?_) (fun i ys H4 z => ?_) (fun i x ys H4 hx z => ?_) (fun ys H4 z => ?_)
                · obtain ⟨_, s4, _⟩ := z
                  exact SqT.of (s4 _ _ hc)
                · obtain ⟨rfl, _⟩ := z
                  rw [List.length_map, List.length_map, List.length_take]
                  exact small_line (by omega)
                · obtain ⟨rfl, s4, h4⟩ := z
                  have hi : i < es.length := by have := (List.getElem?_eq_some_iff.mp hx).1; omega
                  obtain ⟨x', hx', Sx⟩ := shAll_get bl (List.getElem?_eq_getElem hi)
                  rw [hx] at hx'
                  cases hx'
                  refine ⟨⟨rfl, rfl⟩, ?_⟩
                  refine tyes ?_
                  refine ⟨_, rfl, _, rfl, _, _, rfl, rfl, x, es[i], kb, lb, ?_, shows_keep s4 Sx, iy.elem _ (List.getElem_mem hi), hlb, by omega, fun H5 s5 => ⟨s5 _ _ h4, ?_, same_chg (s4.trans s5) hD, upd_same⟩⟩
                  · show [x, V.int (25 - ((m + 1 : Nat) : Int) + 1)] = [x, V.int (25 - (m : Int))]
                    rw [show (25 - ((m + 1 : Nat) : Int) + 1) = 25 - (m : Int) by omega]
                  · rw [List.take_add_one, List.getElem?_eq_getElem hi, List.map_append, List.map_append]; rfl
                · obtain ⟨rfl, s4, h4⟩ := z
                  rw [hzl, List.take_of_length_le (Nat.le_refl _)] at h4
                  refine ⟨D, _, rfl, .inl (SqL.of h4), rfl, flat_bl _, ?_⟩
                  have ea : (if true = true then !inV (.bl false) ((es.map (planD m)).map V.bl) else inV (.bl false) ((es.map (planD m)).map V.bl)) = es.all (planD m) := notin_all _
                  rw [ea]
                  exact k' _ (s01.trans s4)
theorem scRight : FnScope ["_law_thing", "_law_kept"] ["_law_thing"] (defScope sRight) := ⟨rfl, rfl, rfl, by decide +kernel, rfl, by decide +kernel, by decide +kernel⟩
end
/-! ### is_plan and _law_right -/
def spIp : Sp := fun vs H Q _ => ∃ (v : V) (d : PyData) (k l : Nat), vs = [v] ∧ Shows H v d ∧ IB k l d ∧ l < 64 ∧ ∀ H', Same H H' → Q (.bl (planD 24 d)) H'
def spRight : Sp := fun vs H Q _ => ∃ (v : V) (d : PyData) (k l : Nat), vs = [v] ∧ Shows H v d ∧ IB k l d ∧ l < 64 ∧ Fn 1048576 60 d ∧ ∀ H', Same H H' → Q (.bl true) H'
section
variable {P : Program} {w : World} {K : PySem.W.Frag} {mg : Str → Option Value} {base : Heap}
theorem scIp : FnScope ["thing"] ["thing"] (defScope sIp) := ⟨rfl, rfl, rfl, by decide +kernel, rfl, by decide +kernel, by decide +kernel⟩
theorem ok_ip {f fW : Addr} {fd' fdW : FuncData} {tk : Tok} (F : Fun K "is_plan" "is_plan" sIp f fd') (FW : Fun K "is_plan_within" "is_plan_within" sPw fW fdW) (bW : Binds K fdW ["thing", "most"] []) (mW : mg "is_plan_within" = some (.ref fW)) (GW : FnOk P w K mg base CX0 27 fW fdW ["thing", "most"] (spPw 24)) (mMW : mg "MOST_WITHIN" = some (.int 24 tk)) :
    FnOk P w K mg base CX0 28 f fd' ["thing"] spIp := by
  refine F.ok scIp (fun vs H Q E h => ?_) (fun cdv A outer s H vs Q E hr h => ?_)
  · obtain ⟨v, d, k, l, rfl, _⟩ := h
    rfl
  · obtain ⟨v, d, kb, lb, rfl, S, ib, hlb, k⟩ := h
    refine ⟨_, pss_one (ps_ret (pe_call GW hr rfl mW FW.kp bW .nil pass0 (pa_cons (pv 0) (pa_cons (pe_glob (v := .int 24) rfl mMW ⟨tk, rfl⟩) pa_nil)))), ?_⟩
    exact ⟨_, rfl, v, d, kb, lb, rfl, S, ib, hlb, k⟩
theorem ok_right {f fI fL : Addr} {fd' fdI fdL : FuncData} (F : Fun K "_law_right" "_law_right" sRight f fd') (FI : Fun K "is_plan" "is_plan" sIp fI fdI) (bI : Binds K fdI ["thing"] []) (mI : mg "is_plan" = some (.ref fI)) (GI : FnOk P w K mg base CX0 28 fI fdI ["thing"] spIp)
    (FL : Fun K "_law_is_plan" "_law_is_plan" sLp fL fdL) (bL : Binds K fdL ["_law_thing", "_law_deep_here"] []) (mL : mg "_law_is_plan" = some (.ref fL)) (GL : FnOk P w K mg base CX0 28 fL fdL ["_law_thing", "_law_deep_here"] (spLp 24))
    (mRepr : mg "repr" = none) : FnOk P w K mg base CX0 29 f fd' ["_law_thing"] spRight := by
  refine F.ok scRight (fun vs H Q E h => ?_) (fun cdv A outer s H vs Q E hr h => ?_)
  · obtain ⟨v, d, k, l, rfl, _⟩ := h
    rfl
  · obtain ⟨v, d, kb, lb, rfl, S, ib, hlb, fn, k⟩ := h
    have fb : Fn 1048576 60 (.bool (planD 24 d)) := (fn_bool _).mono (by decide) (by decide)
    refine ⟨_, pss_cons (ps_set (i := 1) scRight.nd rfl (Or.inl rfl) (pe_callB (call_repr hr) (by rfl) mRepr (by decide +kernel) (pa_cons (pv 0) pa_nil)))
      (pss_one (ps_ret (pe_and (pe_cmpR op_eq (pe_callB (call_repr hr) (by rfl) mRepr (by decide +kernel) (pa_cons (pe_call GI hr rfl mI FI.kp bI .nil pass0 (pa_cons (pv 0) pa_nil)) pa_nil)) (pe_callB (call_repr hr) (by rfl) mRepr (by decide +kernel) (pa_cons (pe_call GL hr rfl mL FL.kp bL .nil pass0 (pa_cons (pv 0) (pa_cons pe_int pa_nil))) pa_nil)) (nomark _))
        (pe_one (pe_cmpR op_eq (pe_callB (call_repr hr) (by rfl) mRepr (by decide +kernel) (pa_cons (pv 0) pa_nil)) (pv 1) (nomark _)))))), ?_⟩
    refine ⟨_, rfl, v, d, rfl, S, fn, ?_⟩
    refine ⟨_, rfl, v, d, kb, lb, rfl, S, ib, hlb, fun H1 s1 => ?_⟩
    refine ⟨_, _, rfl, .bl _, fb, ?_⟩
    refine ⟨_, rfl, v, d, kb, lb, rfl, shows_keep s1 S, ib, hlb, by decide, fun H2 s2 => ?_⟩
    refine ⟨_, _, rfl, .bl _, fb, ?_⟩
    refine ⟨rfl, _, rfl, ifT (decide_eq_true rfl) ?_⟩
    refine ⟨_, rfl, v, d, rfl, shows_keep (s1.trans s2) S, fn, _, rfl, rfl, ?_⟩
    rw [decide_eq_true rfl]
    exact k H2 (s1.trans s2)
end
/-! ### plans -/
inductive Pln where
  | mk (ps : List Int) (ks : List Pln)
mutual
def flat : Pln → List Int
  | .mk ps ks => ps ++ flats ks
def flats : List Pln → List Int
  | [] => []
  | k :: ks => flat k ++ flats ks
end
mutual
def chO (x : Int) : Pln → Option (List Int)
  | .mk ps ks => if x ∈ ps then some ps else (chOs x ks).map (ps ++ ·)
def chOs (x : Int) : List Pln → Option (List Int)
  | [] => none
  | k :: ks => match chO x k with
    | some r => some r
    | none => chOs x ks
end
mutual
def deep : Pln → Nat
  | .mk ps ks => ps.length + deeps ks
def deeps : List Pln → Nat
  | [] => 0
  | k :: ks => max (deep k) (deeps ks)
end
mutual
def hgt : Pln → Nat
  | .mk _ ks => hgts ks + 1
def hgts : List Pln → Nat
  | [] => 0
  | k :: ks => max (hgt k) (hgts ks)
end
mutual
def plD : Pln → PyData
  | .mk ps ks => .tuple [.tuple (ps.map PyData.int), .tuple (plDs ks)]
def plDs : List Pln → List PyData
  | [] => []
  | k :: ks => plD k :: plDs ks
end
theorem plDs_len : ∀ ks : List Pln, (plDs ks).length = ks.length
  | [] => rfl
  | _ :: ks => by rw [plDs, List.length_cons, List.length_cons, plDs_len ks]
theorem hgts_mem {k : Pln} : ∀ {ks : List Pln}, k ∈ ks → hgt k ≤ hgts ks
  | [], h => by cases h
  | j :: ks, h => by
    rw [hgts]
    rcases List.mem_cons.mp h with rfl | h
    · omega
    · have := hgts_mem h
      omega
theorem flats_take {k : Pln} : ∀ {ks : List Pln} {i : Nat}, ks[i]? = some k → flats (ks.take (i + 1)) = flats (ks.take i) ++ flat k
  | [], _, h => by cases h
  | j :: ks, 0, h => by
    cases h
    show flat k ++ flats (ks.take 0) = flats [] ++ flat k
    simp [flats]
  | j :: ks, i + 1, h => by
    show flat j ++ flats (ks.take (i + 1)) = (flat j ++ flats (ks.take i)) ++ flat k
    rw [flats_take (ks := ks) (by simpa using h), List.append_assoc]
theorem flats_len {k : Pln} : ∀ {ks : List Pln}, k ∈ ks → (flat k).length ≤ (flats ks).length
  | [], h => by cases h
  | j :: ks, h => by
    rw [flats, List.length_append]
    rcases List.mem_cons.mp h with rfl | h
    · omega
    · have := flats_len h
      omega
theorem flats_pre : ∀ (ks : List Pln) (i : Nat), (flats (ks.take i)).length ≤ (flats ks).length
  | ks, 0 => by simp [flats]
  | [], _ + 1 => Nat.le_refl _
  | k :: ks, i + 1 => by
    show (flat k ++ flats (ks.take i)).length ≤ (flat k ++ flats ks).length
    rw [List.length_append, List.length_append]
    have := flats_pre ks i
    omega
theorem sh_pls {H : Hp} : ∀ {zs : List V} {ks : List Pln} {i : Nat} {z : V}, ShowsAll H zs (plDs ks) → zs[i]? = some z → ∃ k, ks[i]? = some k ∧ Shows H z (plD k)
  | [], _, _, _, _, h => by cases h
  | z :: zs, [], _, _, s, _ => by cases s
  | z :: zs, k :: ks, i, y, s, h => by
    rw [plDs] at s
    cases s with
    | cons a b =>
      cases i with
      | zero => cases h; exact ⟨k, rfl, a⟩
      | succ i =>
        obtain ⟨k', h1, h2⟩ := sh_pls (ks := ks) (i := i) b (by simpa using h)
        exact ⟨k', by simpa using h1, h2⟩
theorem pl_inv {H : Hp} {v : V} {ps : List Int} {ks : List Pln} (S : Shows H v (plD (.mk ps ks))) : ∃ (a b c : Addr) (zs : List V), v = .ref a ∧ H a = some (.tup [.ref b, .ref c]) ∧ H b = some (.tup (ps.map V.int)) ∧ H c = some (.tup zs) ∧ ShowsAll H zs (plDs ks) := by
  rw [plD] at S
  cases S with
  | tup e al => cases al with
    | cons s1 al => cases al with
      | cons s2 al =>
        cases al
        cases s1 with
        | tup e1 a1 => cases s2 with
          | tup e2 a2 =>
            rw [sh_int a1] at e1
            exact ⟨_, _, _, _, rfl, e, e1, e2, a2⟩
def spPo (h : Nat) : Sp := fun vs H Q _ => ∃ (v : V) (p : Pln), vs = [v] ∧ Shows H v (plD p) ∧ hgt p ≤ h ∧ (flat p).length ≤ 1000 ∧ ∀ (l : Addr) (H' : Hp), Same H H' → H' l = some (.tup ((flat p).map V.int)) → Q (.ref l) H'
def spLf (h : Nat) : Sp := fun vs H Q _ => ∃ (v : V) (p : Pln), vs = [v] ∧ Shows H v (plD p) ∧ hgt p ≤ h ∧ (flat p).length ≤ 1000 ∧ ∀ (l : Addr) (H' : Hp), Same H H' → H l = none → H' l = some (.lst ((flat p).map V.int)) → Q (.ref l) H'
section
variable {P : Program} {w : World} {K : PySem.W.Frag} {mg : Str → Option Value} {base : Heap}
theorem scPo : FnScope ["plan", "found", "part"] ["plan"] (defScope sPo) := ⟨rfl, rfl, rfl, by decide +kernel, rfl, by decide +kernel, by decide +kernel⟩
theorem ok_po {f : Addr} {fd' : FuncData} (F : Fun K "plan_order" "plan_order" sPo f fd') (bF : Binds K fd' ["plan"] []) (mF : mg "plan_order" = some (.ref f)) (mList : mg "list" = none) (mTuple : mg "tuple" = none) : ∀ h : Nat, FnOk P w K mg base CX0 (h + 1) f fd' ["plan"] (spPo h)
  | 0 => F.ok scPo (fun vs H Q E h => by obtain ⟨v, p, rfl, _⟩ := h; rfl) (fun cdv A outer s H vs Q E hr h => by
      obtain ⟨v, ⟨ps, ks⟩, rfl, _, h0, _⟩ := h
      rw [hgt] at h0
      omega)
  | h + 1 => by
    have GP := ok_po F bF mF mList mTuple h
    refine F.ok scPo (fun vs H Q E h => ?_) (fun cdv A outer s H vs Q E hr h => ?_)
    · obtain ⟨v, p, rfl, _⟩ := h
      rfl
    · obtain ⟨v, ⟨ps, ks⟩, rfl, S, hh, hl, k⟩ := h
      rw [hgt] at hh
      rw [flat] at hl k
      obtain ⟨a, b, c, zs, rfl, ha, hb, hc, al⟩ := pl_inv S
      have hzl := shAll_len al
      rw [plDs_len] at hzl
      refine ⟨_, pss_cons (ps_set (i := 1) scPo.nd rfl (Or.inl rfl) (pe_callTy call_list_of (by rfl) mList (by decide +kernel) (pa_cons (pe_ix ix_tup (pv 0) pe_int (fun _ _ => rfl)) pa_nil)))
        (pss_cons (ps_for PassesOwn.never rfl (pi_tup (pe_ix ix_tup (pv 0) pe_int (fun _ _ => rfl))) (pg_name (i := 2) scPo.nd rfl (Or.inl rfl))
          (pss_one (ps_expr (pe_bm PySem.F.plainAttrs_list PySem.F.slot_list_extend PySem.F.type_list_extend mt_extendT (pv 1) (pa_cons (pe_call GP hr rfl mF F.kp bF .nil pass0 (pa_cons (pv 2) pa_nil)) pa_nil)))))
        (pss_one (ps_ret (pe_callTy call_tuple_of (by rfl) mTuple (by decide +kernel) (pa_cons (pv 1) pa_nil))))), ?_⟩
      refine ⟨_, rfl, _, _, _, _, rfl, rfl, SqT.of ha, rfl, b, _, rfl, .inr (SqT.of hb), fun D hD => ?_⟩
      have s1 := same_laid (o := .lst (ps.map V.int)) hD
      refine ⟨_, rfl, _, _, _, _, rfl, rfl, SqT.of (s1 _ _ ha), rfl, c, rfl, ⟨_, SqT.of (s1 _ _ hc)⟩, for_tup (K := K) (a := c) (xs := zs) (fun i σ H2 => ∃ vt : Option V, σ = [some (.ref a), some (.ref D), vt] ∧ i ≤ ks.length ∧ H2 D = some (.lst ((ps ++ flats (ks.take i)).map V.int)) ∧ Same H H2)
        ⟨none, rfl, Nat.zero_le _, by rw [upd_same]; simp [flats], s1⟩ (fun i σ H2 _ z => ?_) (fun i x σ H2 hx z => ?_) (fun σ H2 z => ?_)⟩
      · obtain ⟨_, _, _, _, s2⟩ := z
        exact SqT.of (s2 _ _ hc)
      · obtain ⟨vt, rfl, hi, h2, s2⟩ := z
        obtain ⟨kd, hk, Sk⟩ := sh_pls al hx
        have hkm := List.mem_of_getElem? hk
        have hil := (List.getElem?_eq_some_iff.mp hk).1
        have hf := flats_take hk
        have hkl := flats_len hkm
        have hkh := hgts_mem hkm
        have hlen : (flats (ks.take (i + 1))).length ≤ (flats ks).length := flats_pre ks (i + 1)
        rw [hf, List.length_append] at hlen
        rw [List.length_append] at hl
        refine ⟨_, rfl, .inl ⟨rfl, _, SqL.of h2⟩, _, rfl, x, kd, rfl, shows_keep s2 Sk, by omega, by omega, fun l H3 s3 h3 => ?_⟩
        refine ⟨D, l, _, _, rfl, rfl, s3 _ _ h2, h3, ?_, ?_⟩
        · rw [List.length_map, List.length_map, List.length_append]
          exact Nat.le_of_lt (small_line (by omega))
        · exact ⟨_, rfl, hil, by rw [hf, upd_same, ← List.map_append, List.append_assoc], same_chg (s2.trans s3) hD⟩
      · obtain ⟨vt, rfl, hi, h2, s2⟩ := z
        rw [hzl, List.take_of_length_le (Nat.le_refl _)] at h2
        refine ⟨_, rfl, D, _, rfl, .inl ⟨SqL.of h2, fun l hl' => ?_⟩⟩
        exact k l _ (s2.trans (same_laid hl')) upd_same
theorem scLf : FnScope ["_law_plan_here", "_law_found", "_law_one"] ["_law_plan_here"] (defScope sLf) := ⟨rfl, rfl, rfl, by decide +kernel, rfl, by decide +kernel, by decide +kernel⟩
theorem ok_lf {f : Addr} {fd' : FuncData} (F : Fun K "_law_flat" "_law_flat" sLf f fd') (bF : Binds K fd' ["_law_plan_here"] []) (mF : mg "_law_flat" = some (.ref f)) (mList : mg "list" = none) : ∀ h : Nat, FnOk P w K mg base CX0 (h + 1) f fd' ["_law_plan_here"] (spLf h)
  | 0 => F.ok scLf (fun vs H Q E h => by obtain ⟨v, p, rfl, _⟩ := h; rfl) (fun cdv A outer s H vs Q E hr h => by
      obtain ⟨v, ⟨ps, ks⟩, rfl, _, h0, _⟩ := h
      rw [hgt] at h0
      omega)
  | h + 1 => by
    have GP := ok_lf F bF mF mList h
    refine F.ok scLf (fun vs H Q E h => ?_) (fun cdv A outer s H vs Q E hr h => ?_)
    · obtain ⟨v, p, rfl, _⟩ := h
      rfl
    · obtain ⟨v, ⟨ps, ks⟩, rfl, S, hh, hl, k⟩ := h
      rw [hgt] at hh
      rw [flat] at hl k
      obtain ⟨a, b, c, zs, rfl, ha, hb, hc, al⟩ := pl_inv S
      have hzl := shAll_len al
      rw [plDs_len] at hzl
      refine ⟨_, pss_cons (ps_set (i := 1) scLf.nd rfl (Or.inl rfl) (pe_callTy call_list_of (by rfl) mList (by decide +kernel) (pa_cons (pe_ix ix_tup (pv 0) pe_int (fun _ _ => rfl)) pa_nil)))
        (pss_cons (ps_for PassesOwn.never rfl (pi_tup (pe_ix ix_tup (pv 0) pe_int (fun _ _ => rfl))) (pg_name (i := 2) scLf.nd rfl (Or.inl rfl))
          (pss_one (ps_set (i := 1) scLf.nd rfl (Or.inl rfl) (pe_op op_cat (pv 1) (pe_call GP hr rfl mF F.kp bF .nil pass0 (pa_cons (pv 2) pa_nil))))))
        (pss_one (ps_ret (pv 1)))), ?_⟩
      refine ⟨_, rfl, _, _, _, _, rfl, rfl, SqT.of ha, rfl, b, _, rfl, .inr (SqT.of hb), fun D hD => ?_⟩
      have s1 := same_laid (o := .lst (ps.map V.int)) hD
      refine ⟨_, rfl, _, _, _, _, rfl, rfl, SqT.of (s1 _ _ ha), rfl, c, rfl, ⟨_, SqT.of (s1 _ _ hc)⟩, for_tup (K := K) (a := c) (xs := zs) (fun i σ H2 => ∃ (D : Addr) (vt : Option V), σ = [some (.ref a), some (.ref D), vt] ∧ i ≤ ks.length ∧ H D = none ∧ H2 D = some (.lst ((ps ++ flats (ks.take i)).map V.int)) ∧ Same H H2)
        ⟨D, none, rfl, Nat.zero_le _, hD, by rw [upd_same]; simp [flats], s1⟩ (fun i σ H2 _ z => ?_) (fun i x σ H2 hx z => ?_) (fun σ H2 z => ?_)⟩
      · obtain ⟨_, _, _, _, _, _, s2⟩ := z
        exact SqT.of (s2 _ _ hc)
      · obtain ⟨D, vt, rfl, hi, hD, h2, s2⟩ := z
        obtain ⟨kd, hk, Sk⟩ := sh_pls al hx
        have hkm := List.mem_of_getElem? hk
        have hil := (List.getElem?_eq_some_iff.mp hk).1
        have hf := flats_take hk
        have hkl := flats_len hkm
        have hkh := hgts_mem hkm
        have hlen : (flats (ks.take (i + 1))).length ≤ (flats ks).length := flats_pre ks (i + 1)
        rw [hf, List.length_append] at hlen
        rw [List.length_append] at hl
        refine ⟨_, rfl, _, rfl, x, kd, rfl, shows_keep s2 Sk, by omega, by omega, fun l H3 s3 _ h3 => ?_⟩
        refine ⟨D, l, _, _, rfl, rfl, s3 _ _ h2, h3, ?_, fun p hp => ?_⟩
        · rw [List.length_map, List.length_map, List.length_append]
          exact Nat.le_of_lt (small_line (by omega))
        · have s4 := s2.trans s3
          refine ⟨p, _, rfl, hil, ?_, by rw [hf, upd_same, ← List.map_append, List.append_assoc], s4.trans (same_laid hp)⟩
          cases e : H p with
          | none => rfl
          | some o => rw [s4 _ _ e] at hp; cases hp
      · obtain ⟨D, vt, rfl, hi, hD, h2, s2⟩ := z
        rw [hzl, List.take_of_length_le (Nat.le_refl _)] at h2
        exact ⟨_, rfl, k D _ s2 hD h2⟩
end
/-! ### chains -/
mutual
theorem chO_len {x : Int} : ∀ (p : Pln) {r : List Int}, chO x p = some r → r.length ≤ (flat p).length
  | .mk ps ks, r, h => by
    rw [chO] at h
    rw [flat, List.length_append]
    split at h
    · cases h
      omega
    · rw [Option.map_eq_some_iff] at h
      obtain ⟨r', h1, rfl⟩ := h
      have := chOs_len ks h1
      rw [List.length_append]
      omega
theorem chOs_len {x : Int} : ∀ (ks : List Pln) {r : List Int}, chOs x ks = some r → r.length ≤ (flats ks).length
  | [], r, h => by rw [chOs] at h; cases h
  | k :: ks, r, h => by
    rw [chOs] at h
    rw [flats, List.length_append]
    split at h
    · next r' e =>
      cases h
      have := chO_len k e
      omega
    · have := chOs_len ks h
      omega
end
theorem chOs_drop {x : Int} {ks : List Pln} {i : Nat} {k : Pln} (h : ks[i]? = some k) : chOs x (ks.drop i) = match chO x k with | some r => some r | none => chOs x (ks.drop (i + 1)) := by
  obtain ⟨hi, e⟩ := List.getElem?_eq_some_iff.mp h
  rw [List.drop_eq_getElem_cons hi, e, chOs]
  try (cases chO x k <;> rfl)
theorem deeps_le {k : Pln} : ∀ {ks : List Pln}, k ∈ ks → deep k ≤ deeps ks
  | [], h => by cases h
  | j :: ks, h => by
    rw [deeps]
    rcases List.mem_cons.mp h with rfl | h
    · omega
    · have := deeps_le h
      omega
theorem deeps_at : ∀ {ks : List Pln}, ks ≠ [] → ∃ k ∈ ks, deep k = deeps ks
  | [], h => absurd rfl h
  | [k], _ => ⟨k, List.mem_cons_self, by rw [deeps, deeps]; omega⟩
  | k :: j :: ks, _ => by
    obtain ⟨m, hm, e⟩ := deeps_at (ks := j :: ks) (by simp)
    by_cases c : deeps (j :: ks) ≤ deep k
    · exact ⟨k, List.mem_cons_self, by rw [deeps]; omega⟩
    · exact ⟨m, List.mem_cons_of_mem _ hm, by rw [deeps]; omega⟩
mutual
/-- no part has more than a thousand parts -/
def ks1000 : Pln → Prop
  | .mk _ ks => ks.length ≤ 1000 ∧ ks1 ks
def ks1 : List Pln → Prop
  | [] => True
  | k :: ks => ks1000 k ∧ ks1 ks
end
theorem ks1_mem {k : Pln} : ∀ {ks : List Pln}, ks1 ks → k ∈ ks → ks1000 k
  | [], _, h => by cases h
  | j :: ks, h, hm => by
    rw [ks1] at h
    rcases List.mem_cons.mp hm with rfl | hm
    · exact h.1
    · exact ks1_mem h.2 hm
def spCo (h : Nat) : Sp := fun vs H Q _ => ∃ (v : V) (p : Pln) (x : Int), vs = [v, .int x] ∧ Shows H v (plD p) ∧ hgt p ≤ h ∧ (flat p).length ≤ 1000 ∧ (chO x p = none → ∀ H', Same H H' → Q .non H') ∧ (∀ (r : List Int) (l : Addr) (H' : Hp), chO x p = some r → Same H H' → H' l = some (.tup (r.map V.int)) → Q (.ref l) H')
def spCh (h : Nat) : Sp := fun vs H Q _ => ∃ (v : V) (p : Pln) (x : Int) (r : List Int), vs = [v, .int x] ∧ Shows H v (plD p) ∧ hgt p ≤ h ∧ (flat p).length < 64 ∧ chO x p = some r ∧ (∀ (ms : List Int) (l : Addr) (H' : Hp), ms.Pairwise (· < ·) → (∀ z, z ∈ ms ↔ z ∈ r) → Same H H' → H' l = some (.tup (ms.map V.int)) → Q (.ref l) H')
def spDe (h : Nat) : Sp := fun vs H Q _ => ∃ (v : V) (p : Pln), vs = [v] ∧ Shows H v (plD p) ∧ hgt p ≤ h ∧ (flat p).length ≤ 1000 ∧ ks1000 p ∧ ∀ H', Same H H' → Q (.int (deep p)) H'
section
variable {P : Program} {w : World} {K : PySem.W.Frag} {mg : Str → Option Value} {base : Heap}
theorem scCo : FnScope ["plan", "place", "part", "rest"] ["plan", "place"] (defScope sCo) := ⟨rfl, rfl, rfl, by decide +kernel, rfl, by decide +kernel, by decide +kernel⟩
theorem ok_co {f : Addr} {fd' : FuncData} (F : Fun K "chain_or_none" "chain_or_none" sCo f fd') (bF : Binds K fd' ["plan", "place"] []) (mF : mg "chain_or_none" = some (.ref f)) : ∀ h : Nat, FnOk P w K mg base CX0 (h + 1) f fd' ["plan", "place"] (spCo h)
  | 0 => F.ok scCo (fun vs H Q E h => by obtain ⟨v, p, x, rfl, _⟩ := h; rfl) (fun cdv A outer s H vs Q E hr h => by
      obtain ⟨v, ⟨ps, ks⟩, x, rfl, _, h0, _⟩ := h
      rw [hgt] at h0
      omega)
  | h + 1 => by
    have GP := ok_co F bF mF h
    refine F.ok scCo (fun vs H Q E h => ?_) (fun cdv A outer s H vs Q E hr h => ?_)
    · obtain ⟨v, p, x, rfl, _⟩ := h
      rfl
    · obtain ⟨v, ⟨ps, ks⟩, x, rfl, S, hh, hl, kn, ks'⟩ := h
      rw [hgt] at hh
      rw [flat, List.length_append] at hl
      rw [chO] at kn ks'
      obtain ⟨a, b, c, zs, rfl, ha, hb, hc, al⟩ := pl_inv S
      have hzl := shAll_len al
      rw [plDs_len] at hzl
      refine ⟨_, pss_cons (ps_if (pt_cmpR op_in_seq (pv 1) (pe_ix ix_tup (pv 0) pe_int (fun _ _ => rfl)) (by with_unfolding_all rfl)) (pss_one (ps_ret (pe_ix ix_tup (pv 0) pe_int (fun _ _ => rfl)))) pss_nil)
        (pss_cons (ps_for PassesOwn.never rfl (pi_tup (pe_ix ix_tup (pv 0) pe_int (fun _ _ => rfl))) (pg_name (i := 2) scCo.nd rfl (Or.inl rfl))
          (pss_cons (ps_set (i := 3) scCo.nd rfl (Or.inl rfl) (pe_call GP hr rfl mF F.kp bF .nil pass0 (pa_cons (pv 2) (pa_cons (pv 1) pa_nil))))
          (pss_one (ps_if (pt_cmpR op_notN (pv 3) pe_non (nomark _)) (pss_one (ps_ret (pe_op op_catA (pe_ix ix_tup (pv 0) pe_int (fun _ _ => rfl)) (pv 3)))) pss_nil))))
        (pss_one (ps_ret pe_non))), ?_⟩
      refine ⟨_, rfl, _, rfl, _, _, _, _, rfl, rfl, SqT.of ha, rfl, b, _, rfl, .inr (SqT.of hb), rfl, flat_ints _, _, rfl, ?_⟩
      show (if inV (.int x) (ps.map V.int) = true then _ else _)
      rw [inV_ints]
      by_cases cx : x ∈ ps
      · refine ifT (decide_eq_true cx) ?_
        rw [if_pos cx] at ks'
        exact ⟨_, rfl, _, _, _, _, rfl, rfl, SqT.of ha, rfl, ks' ps b H rfl (Same.refl _) hb⟩
      · refine ifF (decide_eq_false cx) ?_
        rw [if_neg cx] at kn ks'
        refine ⟨_, rfl, _, _, _, _, rfl, rfl, SqT.of ha, rfl, c, rfl, ⟨_, SqT.of hc⟩, for_tup (K := K) (a := c) (xs := zs) (fun i σ H2 => ∃ v2 v3 : Option V, σ = [some (.ref a), some (.int x), v2, v3] ∧ chOs x ks = chOs x (ks.drop i) ∧ Same H H2) ⟨none, none, rfl, rfl, Same.refl _⟩ (fun i σ H2 _ z => ?_) (fun i y σ H2 hy z => ?_) (fun σ H2 z => ?_)⟩
        · obtain ⟨_, _, _, _, s2⟩ := z
          exact SqT.of (s2 _ _ hc)
        · obtain ⟨v2, v3, rfl, hd, s2⟩ := z
          obtain ⟨kd, hk, Sk⟩ := sh_pls al hy
          have hkm := List.mem_of_getElem? hk
          have hkl := flats_len hkm
          have hkh := hgts_mem hkm
          rw [chOs_drop hk] at hd
          refine ⟨_, rfl, _, rfl, y, kd, x, rfl, shows_keep s2 Sk, by omega, by omega, fun e H3 s3 => ?_, fun r l H3 e s3 h3 => ?_⟩
          · rw [e] at hd
            refine ⟨_, rfl, rfl, _, rfl, ifF rfl ?_⟩
            exact ⟨_, _, rfl, hd, s2.trans s3⟩
          · rw [e] at hd
            have hrl := chO_len kd e
            have s23 := s2.trans s3
            refine ⟨_, rfl, rfl, _, rfl, ifT rfl ?_⟩
            have ke : ∀ (l : Addr) (H' : Hp), Same H H' → H' l = some (.tup ((ps ++ r).map V.int)) → Q (.ref l) H' := fun l H' s' h' => ks' (ps ++ r) l H' (by rw [hd]; rfl) s' h'
            refine ⟨_, rfl, _, _, _, _, rfl, rfl, SqT.of (s23 _ _ ha), rfl, _, rfl, b, l, ps.map V.int, r.map V.int, rfl, rfl, SqT.of (s23 _ _ hb), SqT.of h3, ?_, fun e0 => ?_, fun _ e0 => ?_, fun _ _ p hp => ?_⟩
            · rw [List.length_map, List.length_map]
              exact Nat.le_of_lt (small_line (by omega))
            · have : ps = [] := List.map_eq_nil_iff.mp e0
              subst this
              exact ke l H3 s23 h3
            · have : r = [] := List.map_eq_nil_iff.mp e0
              subst this
              exact ke b H3 s23 (by rw [List.append_nil]; exact s23 _ _ hb)
            · exact ke p _ (s23.trans (same_laid hp)) (by rw [List.map_append]; exact upd_same)
        · obtain ⟨v2, v3, rfl, hd, s2⟩ := z
          rw [hzl, List.drop_of_length_le (Nat.le_refl _), chOs] at hd
          exact kn (by rw [hd]; rfl) _ s2
theorem scCh : FnScope ["plan", "place"] ["plan", "place"] (defScope sCh) := ⟨rfl, rfl, rfl, by decide +kernel, rfl, by decide +kernel, by decide +kernel⟩
theorem ok_ch {f fC : Addr} {fd' fdC : FuncData} {h : Nat} (F : Fun K "chain" "chain" sCh f fd') (FC : Fun K "chain_or_none" "chain_or_none" sCo fC fdC) (bC : Binds K fdC ["plan", "place"] []) (mC : mg "chain_or_none" = some (.ref fC)) (mTuple : mg "tuple" = none) (mSorted : mg "sorted" = none) (mSet : mg "set" = none) : FnOk P w K mg base CX0 (h + 2) f fd' ["plan", "place"] (spCh h) := by
  have GC : FnOk P w K mg base CX0 (h + 1) fC fdC ["plan", "place"] (spCo h) := ok_co FC bC mC h
  refine F.ok scCh (fun vs H Q E h => ?_) (fun cdv A outer s H vs Q E hr h => ?_)
  · obtain ⟨v, p, x, r, rfl, _⟩ := h
    rfl
  · obtain ⟨v, p, x, r, rfl, S, hh, hl, hx, k⟩ := h
    refine ⟨_, pss_one (ps_ret (pe_callTy call_tuple_of (by rfl) mTuple (by decide +kernel) (pa_cons (pe_sortedSet rfl rfl mSorted rfl mSet (pa_cons (pe_call GC hr rfl mC FC.kp bC .nil pass0 (pa_cons (pv 0) (pa_cons (pv 1) pa_nil))) pa_nil)) pa_nil))), ?_⟩
    refine ⟨_, rfl, _, rfl, v, p, x, rfl, S, hh, by omega, (fun e => by rw [hx] at e; cases e), fun r' l H1 e s1 h1 => ?_⟩
    rw [hx] at e
    cases e
    have hrl := chO_len p hx
    refine ⟨l, r, rfl, .inr (SqT.of h1), by omega, fun l2 ms hl2 hr2 hm2 => ?_⟩
    refine ⟨l2, _, rfl, .inl ⟨SqL.of upd_same, fun l3 hl3 => ?_⟩⟩
    exact k ms l3 _ hr2 hm2 (s1.trans ((same_laid hl2).trans (same_laid hl3))) upd_same
theorem scDe : FnScope ["plan"] ["plan"] (defScope sDe) := ⟨rfl, rfl, rfl, by decide +kernel, rfl, by decide +kernel, by decide +kernel⟩
theorem ok_de {f : Addr} {fd' : FuncData} (F : Fun K "deepest" "deepest" sDe f fd') (bF : Binds K fd' ["plan"] []) (mF : mg "deepest" = some (.ref f)) (mLen : mg "len" = none) (mMax : mg "max" = none) : ∀ h : Nat, FnOk P w K mg base CX0 (h + 1) f fd' ["plan"] (spDe h)
  | 0 => F.ok scDe (fun vs H Q E h => by obtain ⟨v, p, rfl, _⟩ := h; rfl) (fun cdv A outer s H vs Q E hr h => by
      obtain ⟨v, ⟨ps, ks⟩, rfl, _, h0, _⟩ := h
      rw [hgt] at h0
      omega)
  | h + 1 => by
    have GP := ok_de F bF mF mLen mMax h
    refine F.ok scDe (fun vs H Q E h => ?_) (fun cdv A outer s H vs Q E hr h => ?_)
    · obtain ⟨v, p, rfl, _⟩ := h
      rfl
    · obtain ⟨v, ⟨ps, ks⟩, rfl, S, hh, hl, hk0, k⟩ := h
      rw [hgt] at hh
      rw [flat, List.length_append] at hl
      rw [deep] at k
      rw [ks1000] at hk0
      obtain ⟨a, b, c, zs, rfl, ha, hb, hc, al⟩ := pl_inv S
      have hzl := shAll_len al
      rw [plDs_len] at hzl
      have hu := hu_of hr
      refine ⟨_, pss_one (ps_ret (pe_op op_add (pe_callB call_len_seq (by rfl) mLen PySem.boot_len (pa_cons (pe_ix ix_tup (pv 0) pe_int (fun _ _ => rfl)) pa_nil))
        (pe_maxD rfl hu rfl mMax (pa_cons (pe_comp (own := ["part"]) (cn := []) (ci := []) rfl (csc rfl rfl) trivial rfl (pi_tup (pe_ix ix_tup (pv 0) pe_int (fun _ _ => rfl))) (fun _ _ _ _ => pg_name (i := 0) (nd_of rfl) rfl (Or.inl rfl)) (fun _ _ _ _ => pts_nil)
          (fun _ _ _ _ => pe_call GP hr rfl mF F.kp bF .nil pass0 (pa_cons (pv 0) pa_nil))) pa_nil) pe_int))), ?_⟩
      refine ⟨_, rfl, _, _, _, _, rfl, rfl, SqT.of ha, rfl, b, _, rfl, .inr (SqT.of hb), ?_⟩
      refine ⟨_, rfl, _, _, _, _, rfl, rfl, SqT.of ha, rfl, c, rfl, ⟨_, SqT.of hc⟩, [], rfl, fun D hD => ?_⟩
      refine comp_tup (a := c) (xs := zs) (fun i ys H4 => ys = ((ks.take i).map fun k => (deep k : Int)).map V.int ∧ Same H H4 ∧ H4 D = some (.lst ys)) ⟨rfl, same_laid hD, upd_same⟩ (fun i ys H4 z => ?_) (fun i ys H4 z => ?_) (fun i y ys H4 hy z => ?_) (fun ys H4 z => ?_)
      · obtain ⟨_, s4, _⟩ := z
        exact SqT.of (s4 _ _ hc)
      · obtain ⟨rfl, _⟩ := z
        rw [List.length_map, List.length_map, List.length_take]
        exact small_line (by omega)
      · obtain ⟨rfl, s4, h4⟩ := z
        obtain ⟨kd, hk, Sk⟩ := sh_pls al hy
        have hkm := List.mem_of_getElem? hk
        have hkl := flats_len hkm
        have hkh := hgts_mem hkm
        refine ⟨⟨rfl, rfl⟩, ?_⟩
        refine tyes ?_
        refine ⟨_, rfl, y, kd, rfl, shows_keep s4 Sk, by omega, by omega, ks1_mem hk0.2 hkm, fun H5 s5 => ⟨s5 _ _ h4, ?_, same_chg (s4.trans s5) hD, upd_same⟩⟩
        rw [List.take_add_one, hk, List.map_append, List.map_append]; rfl
      · obtain ⟨rfl, s4, h4⟩ := z
        rw [hzl, List.take_of_length_le (Nat.le_refl _)] at h4
        refine ⟨_, rfl, D, _, rfl, .inl (SqL.of h4), fun e0 => ?_, fun n hn hm => ?_⟩
        · have : ks = [] := List.map_eq_nil_iff.mp e0
          subst this
          refine ⟨_, _, rfl, rfl, ?_⟩
          rw [deeps] at k
          have := k _ s4
          rw [List.length_map]
          exact this
        · refine ⟨_, _, rfl, rfl, ?_⟩
          obtain ⟨kd, hkd, rfl⟩ := List.mem_map.mp hn
          obtain ⟨kx, hkx, ex⟩ := deeps_at (ks := ks) (fun z => by subst z; cases hkd)
          have h1 := deeps_le hkd
          have h2 := hm (deep kx : Int) (List.mem_map.mpr ⟨kx, hkx, rfl⟩)
          have := k _ s4
          rw [List.length_map]
          rw [show (((ps.length + deeps ks : Nat)) : Int) = (ps.length : Int) + (deep kd : Int) by omega] at this
          exact this
end
/-! ### _law_chain -/
mutual
theorem chO_iff {x : Int} : ∀ p : Pln, (chO x p).isSome = decide (x ∈ flat p)
  | .mk ps ks => by
    rw [chO, flat]
    by_cases c : x ∈ ps
    · rw [if_pos c, decide_eq_true (List.mem_append.mpr (.inl c))]
      rfl
    · rw [if_neg c, Option.isSome_map, chOs_iff ks]
      by_cases c2 : x ∈ flats ks
      · rw [decide_eq_true c2, decide_eq_true (List.mem_append.mpr (.inr c2))]
      · rw [decide_eq_false c2, decide_eq_false (fun z => (List.mem_append.mp z).elim c c2)]
theorem chOs_iff {x : Int} : ∀ ks : List Pln, (chOs x ks).isSome = decide (x ∈ flats ks)
  | [] => by rw [chOs, flats]; simp
  | k :: ks => by
    have h1 := chO_iff (x := x) k
    have h2 := chOs_iff (x := x) ks
    rw [chOs, flats]
    cases e : chO x k with
    | some r =>
      rw [e] at h1
      have : x ∈ flat k := of_decide_eq_true h1.symm
      rw [decide_eq_true (List.mem_append.mpr (.inl this))]
      rfl
    | none =>
      rw [e] at h1
      have c : ¬ x ∈ flat k := of_decide_eq_false h1.symm
      show (chOs x ks).isSome = _
      rw [h2]
      by_cases c2 : x ∈ flats ks
      · rw [decide_eq_true c2, decide_eq_true (List.mem_append.mpr (.inr c2))]
      · rw [decide_eq_false c2, decide_eq_false (fun z => (List.mem_append.mp z).elim c c2)]
end
theorem chO_in {x : Int} {p : Pln} (h : x ∈ flat p) : ∃ r, chO x p = some r := by
  have := chO_iff (x := x) p
  rw [decide_eq_true h] at this
  exact Option.isSome_iff_exists.mp this
theorem chO_out {x : Int} {p : Pln} (h : ¬ x ∈ flat p) : chO x p = none := by
  have := chO_iff (x := x) p
  rw [decide_eq_false h] at this
  cases e : chO x p with
  | none => rfl
  | some r => rw [e] at this; cases this
theorem chOs_take {x : Int} {k : Pln} : ∀ {ks : List Pln} {i : Nat}, ks[i]? = some k → chOs x (ks.take (i + 1)) = match chOs x (ks.take i) with | some r => some r | none => chO x k
  | [], _, h => by cases h
  | j :: ks, 0, h => by
    cases h
    show chOs x [k] = match chOs x [] with | some r => some r | none => chO x k
    rw [chOs, chOs]
    cases chO x k <;> rfl
  | j :: ks, i + 1, h => by
    have ih := chOs_take (x := x) (ks := ks) (i := i) (by simpa using h)
    show chOs x (j :: ks.take (i + 1)) = match chOs x (j :: ks.take i) with | some r => some r | none => chO x k
    rw [chOs, chOs, ih]
    cases chO x j <;> rfl
def spLc (h : Nat) : Sp := fun vs H Q _ => ∃ (v : V) (p : Pln) (x : Int) (r : List Int), vs = [v, .int x] ∧ Shows H v (plD p) ∧ hgt p ≤ h ∧ (flat p).length < 64 ∧ ks1000 p ∧ chO x p = some r ∧ (∀ (ms : List Int) (l : Addr) (H' : Hp), ms.Perm r → ms.Pairwise (· ≤ ·) → Same H H' → H' l = some (.tup (ms.map V.int)) → Q (.ref l) H')
def ChW (H H2 : Hp) (x : Int) (r : List Int) (h m : Nat) (v : V) (σ : St) : Prop := ∃ (v4 : Option V) (D L : Addr) (fo : List Int), σ = [some v, some (.int x), some (.ref D), some (.ref L), v4] ∧ Same H H2 ∧ H2 D = some (.lst (fo.map V.int)) ∧
  ((∃ (y : V) (q : Pln) (rest : List V) (r' : List Int), H2 L = some (.lst (y :: rest)) ∧ Shows H2 y (plD q) ∧ hgt q ≤ h ∧ (flat q).length < 64 ∧ ks1000 q ∧ chO x q = some r' ∧ fo ++ r' = r ∧ m = hgt q) ∨ (H2 L = some (.lst []) ∧ fo = r ∧ m = 0))
section
variable {X : Cx} {pl : List (Addr × Obj)} {N' : List Str} {sc : Scope} {fp : List Addr} {s3 : Shared} {H3 : Hp}
theorem op_inC : OpR (cxComp X pl N' sc fp s3 H3) (compareOp .In) (rIn X.K false) := op_in_seq
end
section
variable {P : Program} {w : World} {K : PySem.W.Frag} {mg : Str → Option Value} {base : Heap}
theorem scLc : FnScope ["_law_plan_here", "_law_place", "_law_found", "_law_some", "_law_here"] ["_law_plan_here", "_law_place"] (defScope sLc) := ⟨rfl, rfl, rfl, by decide +kernel, rfl, by decide +kernel, by decide +kernel⟩
theorem ok_lc {f fF : Addr} {fd' fdF : FuncData} {h : Nat} (F : Fun K "_law_chain" "_law_chain" sLc f fd') (FF : Fun K "_law_flat" "_law_flat" sLf fF fdF) (bF : Binds K fdF ["_law_plan_here"] []) (mF : mg "_law_flat" = some (.ref fF)) (mList : mg "list" = none) (mTuple : mg "tuple" = none) (mSorted : mg "sorted" = none) : FnOk P w K mg base CX0 (h + 2) f fd' ["_law_plan_here", "_law_place"] (spLc h) := by
  have GF : FnOk P w K mg base CX0 (h + 1) fF fdF ["_law_plan_here"] (spLf h) := ok_lf FF bF mF mList h
  refine F.ok scLc (fun vs H Q E h => ?_) (fun cdv A outer s H vs Q E hr h => ?_)
  · obtain ⟨v, p, x, r, rfl, _⟩ := h
    rfl
  · obtain ⟨v, p, x, r, rfl, S, hh, hl, hk1, hx, k⟩ := h
    have hu0 := hr.units0
    have hrl := chO_len p hx
    refine ⟨_, pss_cons (ps_set (i := 2) scLc.nd rfl (Or.inl rfl) (pe_lst pa_nil))
      (pss_cons (ps_set (i := 3) scLc.nd rfl (Or.inl rfl) (pe_lst (pa_cons (pv 0) pa_nil)))
      (pss_cons (ps_while PassesOwn.never (pt_cmpR (op_neE hu0) (pv 3) (pe_lst pa_nil) (nomark _))
        (pss_cons (ps_set (i := 4) scLc.nd rfl (Or.inr rfl) (pe_ix ix_list (pv 3) pe_int (fun _ _ => rfl)))
        (pss_cons (ps_set (i := 2) scLc.nd rfl (Or.inl rfl) (pe_op op_cat (pv 2) (pe_callTy call_list_of (by rfl) mList (by decide +kernel) (pa_cons (pe_ix ix_tup (pv 4) pe_int (fun _ _ => rfl)) pa_nil))))
        (pss_one (ps_setC (i := 3) (own := ["_law_one"]) (cn := ["_law_place", "_law_here"]) (ci := [1, 4]) scLc.nd rfl (Or.inl rfl) rfl (csc rfl rfl) ⟨rfl, rfl, rfl, rfl, rfl, rfl, trivial⟩ rfl (pi_tup (pe_ix ix_tup (pv 4) pe_int (fun _ _ => rfl))) (fun _ _ _ _ => pg_name (i := 0) (nd_of rfl) rfl (Or.inl rfl))
          (fun _ _ _ _ => pts_one (PW.pt (pw_and (pt_cmpR op_notInC (pv 1) (pe_ix ix_tupC (pv 2) pe_int (fun _ _ => rfl)) (by with_unfolding_all rfl)) (pw_and1 (pt_cmpR op_inC (pv 1) (pe_call GF hr rfl mF FF.kp bF .nil pass0 (pa_cons (pv 0) pa_nil)) (by with_unfolding_all rfl)))))) (fun _ _ _ _ => pv 0))))))
      (pss_one (ps_ret (pe_callTy call_tuple_of (by rfl) mTuple (by decide +kernel) (pa_cons (pe_callB call_sortedI (by rfl) mSorted (by decide +kernel) (pa_cons (pv 2) pa_nil)) pa_nil)))))), ?_⟩
    refine ⟨Nat.zero_le _, fun D0 hD0 => ?_⟩
    have s0 := same_laid (o := .lst []) hD0
    refine ⟨_, rfl, by show 1 ≤ sizeLine; decide, fun L0 hL0 => ?_⟩
    have s1 := same_laid (o := .lst [v]) hL0
    refine ⟨fun m σ H2 => ChW H H2 x r h m v σ, ⟨hgt p, none, D0, L0, [], rfl, s0.trans s1, s1 _ _ upd_same, .inl ⟨v, p, [], r, upd_same, shows_keep (s0.trans s1) S, hh, hl, hk1, hx, rfl, rfl⟩⟩, fun m σ H2 z => ?_⟩
    obtain ⟨v4, D, L, fo, rfl, s2, hD, z⟩ := z
    refine ⟨_, rfl, Nat.zero_le _, fun b hb => ?_⟩
    have sb := same_laid (o := .lst []) hb
    rcases z with ⟨y, q, rest, r', hL, Sy, hq, hql, hq1, hxq, hfo, rfl⟩ | ⟨hL, rfl, rfl⟩
    · refine ⟨L, b, _, rfl, rfl, SqL.of (sb _ _ hL), SqL.of upd_same, _, rfl, ifT rfl ?_⟩
      have s2b := s2.trans sb
      have hDb := sb _ _ hD
      have hLb := sb _ _ hL
      have Syb := shows_keep sb Sy
      generalize upd H2 b (.lst []) = H3 at s2b hDb hLb Syb ⊢
      obtain ⟨ps, ks⟩ := q
      rw [hgt] at hq ⊢
      rw [flat, List.length_append] at hql
      rw [chO] at hxq
      rw [ks1000] at hq1
      obtain ⟨a, b', c, zs, rfl, ha, hb', hc, al⟩ := pl_inv Syb
      have hzl := shAll_len al
      rw [plDs_len] at hzl
      refine ⟨fun σ' H' => ∃ m', m' < hgts ks + 1 ∧ ChW H H' x r h m' v σ', fun σ' H' z => z, ?_⟩
      refine ⟨_, rfl, L, _, _, .ref a, rfl, rfl, SqL.of hLb, atI_in (by decide) rfl, ?_⟩
      refine ⟨_, rfl, _, rfl, _, _, _, _, rfl, rfl, SqT.of ha, rfl, b', _, rfl, .inr (SqT.of hb'), fun e he => ?_⟩
      have se := same_laid (o := .lst (ps.map V.int)) he
      refine ⟨D, e, _, _, rfl, rfl, se _ _ hDb, upd_same, ?_, fun D' hD' => ?_⟩
      · have : (fo ++ r').length = r.length := by rw [hfo]
        rw [List.length_append] at this
        rw [List.length_map, List.length_map]
        exact Nat.le_of_lt (small_line (by omega))
      have s3 := s2b.trans (se.trans (same_laid (o := .lst (fo.map V.int ++ ps.map V.int)) hD'))
      have s33 := se.trans (same_laid (o := .lst (fo.map V.int ++ ps.map V.int)) hD')
      have hD3 : (upd (upd H3 e (.lst (ps.map V.int))) D' (.lst (fo.map V.int ++ ps.map V.int))) D' = some (.lst ((fo ++ ps).map V.int)) := by rw [upd_same, List.map_append]
      generalize upd (upd H3 e (.lst (ps.map V.int))) D' (.lst (fo.map V.int ++ ps.map V.int)) = H4 at s3 s33 hD3 ⊢
      have ha4 := s33 _ _ ha
      have hb4 := s33 _ _ hb'
      have hc4 := s33 _ _ hc
      refine ⟨_, rfl, _, _, _, _, rfl, rfl, SqT.of ha4, rfl, c, rfl, ⟨_, SqT.of hc4⟩, [.int x, .ref a], rfl, fun E' hE' => ?_⟩
      by_cases cx : x ∈ ps
      · rw [if_pos cx] at hxq
        have er : ps = r' := Option.some.inj hxq
        subst er
        refine comp_tup (a := c) (xs := zs) (fun i ys H5 => ys = [] ∧ H5 = upd H4 E' (.lst [])) ⟨rfl, rfl⟩ (fun i ys H5 z => ?_) (fun i ys H5 z => ?_) (fun i y ys H5 hy z => ?_) (fun ys H5 z => ?_)
        · obtain ⟨_, rfl⟩ := z
          exact SqT.of (same_laid hE' _ _ hc4)
        · obtain ⟨rfl, _⟩ := z
          exact small_line (Nat.zero_le _)
        · obtain ⟨rfl, rfl⟩ := z
          refine ⟨⟨rfl, rfl⟩, ?_⟩
          refine ⟨_, rfl, _, rfl, _, _, _, _, rfl, rfl, SqT.of (same_laid hE' _ _ ha4), rfl, b', _, rfl, .inr (SqT.of (same_laid hE' _ _ hb4)), rfl, flat_ints _, _, rfl, ?_⟩
          show (if (!inV (.int x) (ps.map V.int)) = true then _ else _)
          rw [inV_ints, decide_eq_true cx]
          exact iteF (iteF ⟨rfl, rfl⟩)
        · obtain ⟨rfl, rfl⟩ := z
          exact ⟨0, by omega, _, D', E', _, rfl, s3.trans (same_laid hE'), same_laid hE' _ _ hD3, .inr ⟨upd_same, hfo, rfl⟩⟩
      · rw [if_neg cx, Option.map_eq_some_iff] at hxq
        obtain ⟨r2, hr2, hrr⟩ := hxq
        refine comp_tup (a := c) (xs := zs) (fun i ys H5 => Same H4 H5 ∧ H5 E' = some (.lst ys) ∧ ys.length ≤ i ∧ i ≤ zs.length ∧ ((ys = [] ∧ chOs x (ks.take i) = none) ∨ ∃ (y : V) (q : Pln) (rest : List V) (r' : List Int), ys = y :: rest ∧ Shows H4 y (plD q) ∧ q ∈ ks ∧ chO x q = some r' ∧ chOs x (ks.take i) = some r')) ⟨same_laid hE', upd_same, Nat.le_refl _, Nat.zero_le _, .inl ⟨rfl, by rw [List.take_zero, chOs]⟩⟩ (fun i ys H5 z => ?_) (fun i ys H5 z => ?_) (fun i y ys H5 hy z => ?_) (fun ys H5 z => ?_)
        · exact SqT.of (z.1 _ _ hc4)
        · obtain ⟨_, _, hl1, hl2, _⟩ := z
          exact small_line (by omega)
        · obtain ⟨s5, h5, hl1, _, zc⟩ := z
          obtain ⟨kd, hk, Sk⟩ := sh_pls al hy
          have hkm := List.mem_of_getElem? hk
          have hkl := flats_len hkm
          have hkh := hgts_mem hkm
          have hyl := (List.getElem?_eq_some_iff.mp hy).1
          have ht := chOs_take (x := x) hk
          refine ⟨⟨rfl, rfl⟩, ?_⟩
          refine ⟨_, rfl, _, rfl, _, _, _, _, rfl, rfl, SqT.of (s5 _ _ ha4), rfl, b', _, rfl, .inr (SqT.of (s5 _ _ hb4)), rfl, flat_ints _, _, rfl, ?_⟩
          show (if (!inV (.int x) (ps.map V.int)) = true then _ else _)
          rw [inV_ints, decide_eq_false cx]
          refine iteT ?_
          refine ⟨_, rfl, _, rfl, y, kd, rfl, shows_keep (s33.trans s5) Sk, by omega, by omega, fun lf H6 s6 _ h6 => ?_⟩
          refine ⟨lf, _, rfl, .inl (SqL.of h6), rfl, flat_ints _, _, rfl, ?_⟩
          show (if inV (.int x) ((flat kd).map V.int) = true then _ else _)
          rw [inV_ints]
          by_cases ck : x ∈ flat kd
          · refine ifT (decide_eq_true ck) ?_
            obtain ⟨rk, hrk⟩ := chO_in ck
            refine ⟨_, rfl, s6 _ _ h5, same_chg (s5.trans s6) hE', upd_same, by rw [List.length_append]; show _ + 1 ≤ _; omega, hyl, .inr ?_⟩
            rcases zc with ⟨rfl, hn⟩ | ⟨y0, q0, rest0, r0, rfl, g1, g2, g3, g4⟩
            · rw [hn, hrk] at ht
              exact ⟨y, kd, [], rk, rfl, shows_keep s33 Sk, hkm, hrk, ht⟩
            · rw [g4] at ht
              exact ⟨y0, q0, rest0 ++ [y], r0, rfl, g1, g2, g3, ht⟩
          · refine ifF (decide_eq_false ck) ?_
            rw [chO_out ck] at ht
            refine ⟨s5.trans s6, s6 _ _ h5, by omega, hyl, ?_⟩
            rcases zc with ⟨rfl, hn⟩ | ⟨y0, q0, rest0, r0, rfl, g1, g2, g3, g4⟩
            · rw [hn] at ht
              exact .inl ⟨rfl, ht⟩
            · rw [g4] at ht
              exact .inr ⟨y0, q0, rest0, r0, rfl, g1, g2, g3, ht⟩
        · obtain ⟨s5, h5, _, _, zc⟩ := z
          rw [hzl, List.take_of_length_le (Nat.le_refl _), hr2] at zc
          rcases zc with ⟨_, hn⟩ | ⟨y0, q0, rest0, r0, rfl, g1, g2, g3, g4⟩
          · cases hn
          · cases g4
            have hkh := hgts_mem g2
            have hkl := flats_len g2
            exact ⟨hgt q0, by omega, _, D', E', _, rfl, s3.trans s5, s5 _ _ hD3, .inl ⟨y0, q0, rest0, r2, h5, shows_keep s5 g1, by omega, by omega, ks1_mem hq1.2 g2, g3, by rw [List.append_assoc, hrr, hfo], rfl⟩⟩
    · refine ⟨L, b, [], rfl, rfl, SqL.of (sb _ _ hL), SqL.of upd_same, _, rfl, ifF rfl ?_⟩
      refine ⟨_, rfl, D, fo, rfl, SqL.of (sb _ _ hD), by omega, fun l1 ms hl1 pm so => ?_⟩
      refine ⟨l1, _, rfl, .inl ⟨SqL.of upd_same, fun l2 hl2 => ?_⟩⟩
      exact k ms l2 _ pm so (s2.trans (sb.trans ((same_laid hl1).trans (same_laid hl2)))) upd_same
end
/-! ### chains of good plans -/
mutual
def good : Pln → Prop
  | .mk ps ks => ps ≠ [] ∧ goods ks
def goods : List Pln → Prop
  | [] => True
  | k :: ks => good k ∧ goods ks
end
theorem goods_mem {k : Pln} : ∀ {ks : List Pln}, goods ks → k ∈ ks → good k
  | [], _, h => by cases h
  | j :: ks, h, hm => by
    rw [goods] at h
    rcases List.mem_cons.mp hm with rfl | hm
    · exact h.1
    · exact goods_mem h.2 hm
mutual
theorem chO_sub {x : Int} : ∀ (p : Pln) {r : List Int}, chO x p = some r → r.Sublist (flat p) ∧ x ∈ r ∧ r.length ≤ deep p
  | .mk ps ks, r, h => by
    rw [chO] at h
    rw [flat, deep]
    split at h
    · next c =>
      cases h
      exact ⟨List.sublist_append_left _ _, c, by omega⟩
    · rw [Option.map_eq_some_iff] at h
      obtain ⟨r', h1, rfl⟩ := h
      obtain ⟨a, b, c⟩ := chOs_sub ks h1
      exact ⟨a.append_left ps, List.mem_append.mpr (.inr b), by rw [List.length_append]; omega⟩
theorem chOs_sub {x : Int} : ∀ (ks : List Pln) {r : List Int}, chOs x ks = some r → r.Sublist (flats ks) ∧ x ∈ r ∧ r.length ≤ deeps ks
  | [], r, h => by rw [chOs] at h; cases h
  | k :: ks, r, h => by
    rw [chOs] at h
    rw [flats, deeps]
    split at h
    · next r' e =>
      cases h
      obtain ⟨a, b, c⟩ := chO_sub k e
      exact ⟨a.trans (List.sublist_append_left _ _), b, by omega⟩
    · obtain ⟨a, b, c⟩ := chOs_sub ks h
      exact ⟨a.trans (List.sublist_append_right _ _), b, by omega⟩
end
theorem flats_mem {k : Pln} {x : Int} (hx : x ∈ flat k) : ∀ {ks : List Pln}, k ∈ ks → x ∈ flats ks
  | [], h => by cases h
  | j :: ks, h => by
    rw [flats]
    rcases List.mem_cons.mp h with rfl | h
    · exact List.mem_append.mpr (.inl hx)
    · exact List.mem_append.mpr (.inr (flats_mem hx h))
theorem chOs_at {k : Pln} {x : Int} (hx : x ∈ flat k) : ∀ {ks : List Pln}, (flats ks).Nodup → k ∈ ks → chOs x ks = chO x k
  | [], _, h => by cases h
  | j :: ks, nd, h => by
    rw [flats, List.nodup_append] at nd
    rw [chOs]
    by_cases c : x ∈ flat j
    · rcases List.mem_cons.mp h with rfl | h
      · obtain ⟨r, hr⟩ := chO_in c
        rw [hr]
      · exact absurd rfl (nd.2.2 x c x (flats_mem hx h))
    · rw [chO_out c]
      rcases List.mem_cons.mp h with rfl | h
      · exact absurd hx c
      · exact chOs_at hx nd.2.1 h
theorem flats_nodup {k : Pln} : ∀ {ks : List Pln}, (flats ks).Nodup → k ∈ ks → (flat k).Nodup
  | [], _, h => by cases h
  | j :: ks, nd, h => by
    rw [flats, List.nodup_append] at nd
    rcases List.mem_cons.mp h with rfl | h
    · exact nd.1
    · exact flats_nodup nd.2.1 h
theorem deep_at : ∀ (h : Nat) (p : Pln), hgt p ≤ h → good p → (flat p).Nodup → ∃ x ∈ flat p, ∃ r, chO x p = some r ∧ r.length = deep p
  | 0, .mk ps ks, hh, _, _ => by rw [hgt] at hh; omega
  | h + 1, .mk ps ks, hh, g, nd => by
    rw [hgt] at hh
    rw [good] at g
    rw [flat, List.nodup_append] at nd
    rw [flat, deep]
    by_cases c : ks = []
    · subst c
      obtain ⟨x, hx⟩ := List.exists_mem_of_ne_nil ps g.1
      refine ⟨x, List.mem_append.mpr (.inl hx), ps, ?_, ?_⟩
      · rw [chO, if_pos hx]
      · rw [deeps]; omega
    · obtain ⟨k, hk, ek⟩ := deeps_at c
      have hkh := hgts_mem hk
      obtain ⟨x, hx, r, hr, hl⟩ := deep_at h k (by omega) (goods_mem g.2 hk) (flats_nodup nd.2.1 hk)
      have hxf := flats_mem hx hk
      refine ⟨x, List.mem_append.mpr (.inr hxf), ps ++ r, ?_, ?_⟩
      · rw [chO, if_neg (fun z => nd.2.2 x z x hxf rfl), chOs_at hx nd.2.1 hk, hr]
        rfl
      · rw [List.length_append]; omega
def SortOf (r k : List Int) : Prop := k.Pairwise (· < ·) ∧ ∀ z, z ∈ k ↔ z ∈ r
theorem SortOf.uniq {r k k' : List Int} (h : SortOf r k) (h' : SortOf r k') : k = k' := rise_same h.1 h'.1 fun z => (h.2 z).trans (h'.2 z).symm
theorem SortOf.len {r k : List Int} (h : SortOf r k) (nd : r.Nodup) : k.length = r.length :=
  ((List.perm_ext_iff_of_nodup (h.1.imp fun h => by omega) nd).mpr h.2).length_eq
theorem sort_of {r k : List Int} (pm : k.Perm r) (so : k.Pairwise (· ≤ ·)) (nd : r.Nodup) : SortOf r k := by
  refine ⟨(so.and (pm.nodup_iff.mpr nd)).imp fun h => ?_, fun z => pm.mem_iff⟩
  have := h.1
  have := h.2
  omega
/-- a list of chains, one for each of xs -/
def ChsOf (p : Pln) (xs : List Int) (kl : List (List Int)) : Prop := kl.length = xs.length ∧ ∀ (j : Nat) (x : Int) (k : List Int), xs[j]? = some x → kl[j]? = some k → ∃ r, chO x p = some r ∧ SortOf r k
theorem ChsOf.uniq {p : Pln} {xs : List Int} {kl kl' : List (List Int)} (h : ChsOf p xs kl) (h' : ChsOf p xs kl') : kl = kl' := by
  refine List.ext_getElem (h.1.trans h'.1.symm) fun j h1 h2 => ?_
  have hj : j < xs.length := by rw [← h.1]; exact h1
  obtain ⟨r, e1, s1⟩ := h.2 j xs[j] kl[j] (List.getElem?_eq_getElem hj) (List.getElem?_eq_getElem h1)
  obtain ⟨r', e2, s2⟩ := h'.2 j xs[j] kl'[j] (List.getElem?_eq_getElem hj) (List.getElem?_eq_getElem h2)
  rw [e1] at e2
  cases e2
  exact s1.uniq s2
theorem ChsOf.snoc {p : Pln} {xs : List Int} {kl : List (List Int)} {i : Nat} {x : Int} {r k : List Int} (h : ChsOf p (xs.take i) kl) (hx : xs[i]? = some x) (hr : chO x p = some r) (hs : SortOf r k) : ChsOf p (xs.take (i + 1)) (kl ++ [k]) := by
  have hi := (List.getElem?_eq_some_iff.mp hx).1
  have hkl : kl.length = i := by rw [h.1, List.length_take]; omega
  refine ⟨by rw [List.length_append, hkl, List.length_take]; show i + 1 = _; omega, fun j y k' hy hk => ?_⟩
  by_cases c : j < i
  · refine h.2 j y k' ?_ ?_
    · rw [List.getElem?_take_of_lt (by omega)] at hy
      rw [List.getElem?_take_of_lt c]
      exact hy
    · rw [List.getElem?_append_left (by omega)] at hk
      exact hk
  · have hj : j = i := by
      have := (List.getElem?_eq_some_iff.mp hk).1
      rw [List.length_append, hkl] at this
      have : j < i + 1 := this
      omega
    subst hj
    rw [List.getElem?_take_of_lt (by omega), hx] at hy
    cases hy
    rw [List.getElem?_append_right (by omega), hkl, Nat.sub_self] at hk
    cases hk
    exact ⟨r, hr, hs⟩
structure PlOk (h : Nat) (p : Pln) : Prop where
  ht : hgt p ≤ h
  ln : (flat p).length < 64
  k1 : ks1000 p
  gd : good p
  nd : (flat p).Nodup
  sm : ∀ x ∈ flat p, x.natAbs < 1000000
  fn : Fn 1048576 60 (plD p)
theorem PlOk.ne {h : Nat} {p : Pln} (g : PlOk h p) : flat p ≠ [] := by
  have := g.gd
  obtain ⟨ps, ks⟩ := p
  rw [good] at this
  rw [flat]
  intro z
  exact this.1 (List.append_eq_nil_iff.mp z).1
def spPr (h : Nat) : Sp := fun vs H Q _ => ∃ (v : V) (p : Pln), vs = [v] ∧ Shows H v (plD p) ∧ PlOk h p ∧ ∀ H', Same H H' → Q (.bl true) H'
theorem sh_intsD {H : Hp} : ∀ l : List Int, ShowsAll H (l.map V.int) (l.map PyData.int)
  | [] => .nil
  | _ :: r => .cons (.int _) (sh_intsD r)
section
variable {X : Cx} {pl : List (Addr × Obj)} {N' : List Str} {sc : Scope} {fp : List Addr} {s3 : Shared} {H3 : Hp}
end
section
variable {P : Program} {w : World} {K : PySem.W.Frag} {mg : Str → Option Value} {base : Heap}
theorem scPr : FnScope ["_law_plan_here", "_law_kept", "_law_order_here", "_law_chains"] ["_law_plan_here"] (defScope sPr) := ⟨rfl, rfl, rfl, by decide +kernel, rfl, by decide +kernel, by decide +kernel⟩
theorem ok_pr {f fF fP fC fL fD : Addr} {fd' fdF fdP fdC fdL fdD : FuncData} {h : Nat} (F : Fun K "_law_plan_right" "_law_plan_right" sPr f fd')
    (FF : Fun K "_law_flat" "_law_flat" sLf fF fdF) (bF : Binds K fdF ["_law_plan_here"] []) (mF : mg "_law_flat" = some (.ref fF)) (GF : FnOk P w K mg base CX0 (h + 2) fF fdF ["_law_plan_here"] (spLf h))
    (FP : Fun K "plan_order" "plan_order" sPo fP fdP) (bP : Binds K fdP ["plan"] []) (mP : mg "plan_order" = some (.ref fP)) (GP : FnOk P w K mg base CX0 (h + 2) fP fdP ["plan"] (spPo h))
    (FC : Fun K "chain" "chain" sCh fC fdC) (bC : Binds K fdC ["plan", "place"] []) (mC : mg "chain" = some (.ref fC)) (GC : FnOk P w K mg base CX0 (h + 2) fC fdC ["plan", "place"] (spCh h))
    (FL : Fun K "_law_chain" "_law_chain" sLc fL fdL) (bL : Binds K fdL ["_law_plan_here", "_law_place"] []) (mL : mg "_law_chain" = some (.ref fL)) (GL : FnOk P w K mg base CX0 (h + 2) fL fdL ["_law_plan_here", "_law_place"] (spLc h))
    (FD : Fun K "deepest" "deepest" sDe fD fdD) (bD : Binds K fdD ["plan"] []) (mD : mg "deepest" = some (.ref fD)) (GD : FnOk P w K mg base CX0 (h + 2) fD fdD ["plan"] (spDe h))
    (mRepr : mg "repr" = none) (mTuple : mg "tuple" = none) (mIsi : mg "isinstance" = none) (mList : mg "list" = none) (mMax : mg "max" = none) (mLen : mg "len" = none) : FnOk P w K mg base CX0 (h + 3) f fd' ["_law_plan_here"] (spPr h) := by
  refine F.ok scPr (fun vs H Q E h => ?_) (fun cdv A outer s H vs Q E hr h => ?_)
  · obtain ⟨v, p, rfl, _⟩ := h
    rfl
  · obtain ⟨v, p, rfl, S, g, k⟩ := h
    have hu := hu_of hr
    have hln := g.ln
    have fT : Fn 1048576 60 (.tuple ((flat p).map PyData.int)) := by
      refine (fn_tup (n := 30) (p := 0) (L := 64) (fun d hd => ?_) (by rw [List.length_map]; omega)).mono (by decide) (by decide)
      obtain ⟨x, hx, rfl⟩ := List.mem_map.mp hd
      exact fn_int (by have := g.sm x hx; omega)
    refine ⟨_, pss_cons (ps_set (i := 1) scPr.nd rfl (Or.inl rfl) (pe_callB (call_repr hr) (by rfl) mRepr (by decide +kernel) (pa_cons (pv 0) pa_nil)))
      (pss_cons (ps_set (i := 2) scPr.nd rfl (Or.inl rfl) (pe_call GF hr rfl mF FF.kp bF .nil pass0 (pa_cons (pv 0) pa_nil)))
      (pss_cons (ps_if (pt_cmpR op_ne (pe_callB (call_repr hr) (by rfl) mRepr (by decide +kernel) (pa_cons (pe_call GP hr rfl mP FP.kp bP .nil pass0 (pa_cons (pv 0) pa_nil)) pa_nil)) (pe_callB (call_repr hr) (by rfl) mRepr (by decide +kernel) (pa_cons (pe_callTy call_tuple_of (by rfl) mTuple (by decide +kernel) (pa_cons (pv 2) pa_nil)) pa_nil)) (nomark _)) (pss_one (ps_ret pe_bl)) pss_nil)
      (pss_cons (ps_setC (i := 3) (own := ["_law_place"]) (cn := ["_law_plan_here"]) (ci := [0]) scPr.nd rfl (Or.inl rfl) rfl (csc rfl rfl) ⟨rfl, rfl, rfl, trivial⟩ rfl (pi_list (pv 2)) (fun _ _ _ _ => pg_name (i := 0) (nd_of rfl) rfl (Or.inl rfl)) (fun _ _ _ _ => pts_nil)
          (fun _ _ _ _ => pe_call GL hr rfl mL FL.kp bL .nil pass0 (pa_cons (pv 1) (pa_cons (pv 0) pa_nil))))
      (pss_cons (ps_if (PW.pt (pw_or (pt_cmpR (op_neLT hu) (pe_comp (own := ["_law_place"]) (cn := ["_law_plan_here"]) (ci := [0]) rfl (csc rfl rfl) ⟨rfl, rfl, rfl, trivial⟩ rfl (pi_list (pv 2)) (fun _ _ _ _ => pg_name (i := 0) (nd_of rfl) rfl (Or.inl rfl)) (fun _ _ _ _ => pts_nil)
          (fun _ _ _ _ => pe_call GC hr rfl mC FC.kp bC .nil pass0 (pa_cons (pv 1) (pa_cons (pv 0) pa_nil)))) (pv 3) (nomark _))
          (pw_or1 (pt_val (pe_callB call_isinst (by rfl) mIsi (by decide +kernel) (pa_cons (pe_call GC hr rfl mC FC.kp bC .nil pass0 (pa_cons (pv 0) (pa_cons (pe_ix ix_list (pv 2) pe_int (fun _ _ => rfl)) pa_nil))) (pa_cons (pe_tyN (T := "list") (by rfl) mList (by decide +kernel)) pa_nil)))))))
          (pss_one (ps_ret pe_bl)) pss_nil)
      (pss_one (ps_ret (pe_and (pe_cmpR op_eq (pe_callB (call_repr hr) (by rfl) mRepr (by decide +kernel) (pa_cons (pe_call GD hr rfl mD FD.kp bD .nil pass0 (pa_cons (pv 0) pa_nil)) pa_nil)) (pe_callB (call_repr hr) (by rfl) mRepr (by decide +kernel) (pa_cons (pe_callB (call_maxL rfl) (by rfl) mMax (by decide +kernel)
          (pa_cons (pe_comp (own := ["_law_one"]) (cn := []) (ci := []) rfl (csc rfl rfl) trivial rfl (pi_list (pv 3)) (fun _ _ _ _ => pg_name (i := 0) (nd_of rfl) rfl (Or.inl rfl)) (fun _ _ _ _ => pts_nil) (fun _ _ _ _ => pe_callB call_len_seqC (by rfl) mLen PySem.boot_len (pa_cons (pv 0) pa_nil))) pa_nil)) pa_nil)) (nomark _))
        (pe_one (pe_cmpR op_eq (pe_callB (call_repr hr) (by rfl) mRepr (by decide +kernel) (pa_cons (pv 0) pa_nil)) (pv 1) (nomark _)))))))))), ?_⟩
    refine ⟨_, rfl, v, _, rfl, S, g.fn, ?_⟩
    refine ⟨_, rfl, v, p, rfl, S, g.ht, by omega, fun lo H1 s1 _ h1 => ?_⟩
    refine ⟨_, rfl, v, p, rfl, shows_keep s1 S, g.ht, by omega, fun l2 H2 s2 h2 => ?_⟩
    refine ⟨_, _, rfl, .tup h2 (sh_intsD _), fT, ?_⟩
    refine ⟨_, rfl, lo, _, rfl, .inl ⟨SqL.of (s2 _ _ h1), fun l3 hl3 => ?_⟩⟩
    have s3 := same_laid (o := .tup ((flat p).map V.int)) hl3
    refine ⟨_, _, rfl, .tup upd_same (sh_intsD _), fT, ?_⟩
    refine ⟨rfl, _, rfl, ifF (by simp) ?_⟩
    have h13 := s3 _ _ (s2 _ _ h1)
    have s13 := s1.trans (s2.trans s3)
    generalize upd H2 l3 (.tup ((flat p).map V.int)) = H3 at h13 s13 ⊢
    -- the law's chains
    refine ⟨_, rfl, lo, rfl, ⟨_, SqL.of h13⟩, [v], rfl, fun C hC => ?_⟩
    refine comp_list (a := lo) (xs := (flat p).map V.int) (fun i ys H4 => ∃ kl, TupsAre H4 ys kl ∧ ChsOf p ((flat p).take i) kl ∧ i ≤ (flat p).length ∧ Same H3 H4 ∧ H4 C = some (.lst ys)) ⟨[], trivial, ⟨by simp, fun j x k _ z => by simp at z⟩, Nat.zero_le _, same_laid hC, upd_same⟩ (fun i ys H4 z => ?_) (fun i ys H4 z => ?_) (fun i y ys H4 hy z => ?_) (fun ys H4 z => ?_)
    · obtain ⟨_, _, _, _, s4, _⟩ := z
      exact SqL.of (s4 _ _ h13)
    · obtain ⟨kl, T, CO, hi, _⟩ := z
      have := CO.1
      rw [List.length_take] at this
      rw [T.length]
      exact small_line (by omega)
    · obtain ⟨kl, T, CO, hi, s4, h4⟩ := z
      rw [List.getElem?_map, Option.map_eq_some_iff] at hy
      obtain ⟨x, hx, rfl⟩ := hy
      have hi' := (List.getElem?_eq_some_iff.mp hx).1
      obtain ⟨r, hr'⟩ := chO_in (List.mem_of_getElem? hx)
      obtain ⟨rs, rm, _⟩ := chO_sub p hr'
      have rnd := rs.nodup g.nd
      refine ⟨⟨rfl, rfl⟩, ?_⟩
      refine tyes ?_
      refine ⟨_, rfl, _, rfl, v, p, x, r, rfl, shows_keep (s13.trans s4) S, g.ht, hln, g.k1, hr', fun ms l H5 pm so s5 h5 => ?_⟩
      have so' := sort_of pm so rnd
      have h45 := s5 _ _ h4
      refine ⟨h45, kl ++ [ms], (T.keep fun b zs e => ?_).snoc ⟨l, rfl, ?_, fun z => ?_⟩, CO.snoc hx hr' so', hi', same_chg (s4.trans s5) hC, upd_same⟩
      · have e5 := s5 _ _ e
        rw [upd_ne (ne_of e5 h45 (by intro z; cases z))]
        exact e5
      · rw [upd_ne (ne_of h5 h45 (by intro z; cases z))]
        exact h5
      · subst z
        have := (so'.2 x).mpr rm
        cases this
    · obtain ⟨kl, T4, CO4, _, s4, h4⟩ := z
      rw [List.length_map, List.take_of_length_le (Nat.le_refl _)] at CO4
      have h14 := s4 _ _ h13
      have s14 := s13.trans s4
      -- the program's chains
      refine ⟨_, rfl, lo, rfl, ⟨_, SqL.of h14⟩, [v], rfl, fun C2 hC2 => ?_⟩
      refine comp_list (a := lo) (xs := (flat p).map V.int) (fun i zs H5 => ∃ kl', TupsAre H5 zs kl' ∧ ChsOf p ((flat p).take i) kl' ∧ i ≤ (flat p).length ∧ Same H4 H5 ∧ H5 C2 = some (.lst zs)) ⟨[], trivial, ⟨by simp, fun j x k _ z => by simp at z⟩, Nat.zero_le _, same_laid hC2, upd_same⟩ (fun i zs H5 z => ?_) (fun i zs H5 z => ?_) (fun i y zs H5 hy z => ?_) (fun zs H5 z => ?_)
      · obtain ⟨_, _, _, _, s5, _⟩ := z
        exact SqL.of (s5 _ _ h14)
      · obtain ⟨kl', T, CO, hi, _⟩ := z
        have := CO.1
        rw [List.length_take] at this
        rw [T.length]
        exact small_line (by omega)
      · obtain ⟨kl', T, CO, hi, s5, h5⟩ := z
        rw [List.getElem?_map, Option.map_eq_some_iff] at hy
        obtain ⟨x, hx, rfl⟩ := hy
        have hi' := (List.getElem?_eq_some_iff.mp hx).1
        obtain ⟨r, hr'⟩ := chO_in (List.mem_of_getElem? hx)
        obtain ⟨rs, rm, _⟩ := chO_sub p hr'
        refine ⟨⟨rfl, rfl⟩, ?_⟩
        refine tyes ?_
        refine ⟨_, rfl, _, rfl, v, p, x, r, rfl, shows_keep (s14.trans s5) S, g.ht, hln, hr', fun ms l H6 hri hme s6 h6 => ?_⟩
        have h56 := s6 _ _ h5
        refine ⟨h56, kl' ++ [ms], (T.keep fun b zs e => ?_).snoc ⟨l, rfl, ?_, fun z => ?_⟩, CO.snoc hx hr' ⟨hri, hme⟩, hi', same_chg (s5.trans s6) hC2, upd_same⟩
        · have e6 := s6 _ _ e
          rw [upd_ne (ne_of e6 h56 (by intro z; cases z))]
          exact e6
        · rw [upd_ne (ne_of h6 h56 (by intro z; cases z))]
          exact h6
        · subst z
          have := (hme x).mpr rm
          cases this
      · obtain ⟨kl', T5, CO5, _, s5, h5⟩ := z
        rw [List.length_map, List.take_of_length_le (Nat.le_refl _)] at CO5
        have ek := CO5.uniq CO4
        subst ek
        have T45 : TupsAre H5 ys kl' := T4.keep fun b zs e => s5 _ _ e
        have h45 := s5 _ _ h4
        have s15 := s14.trans s5
        refine ⟨_, rfl, C2, C, _, _, kl', rfl, rfl, SqL.of h5, SqL.of h45, T5, T45, _, rfl, ifF rfl ?_⟩
        -- the first place's chain is no list
        obtain ⟨x0, hx0⟩ : ∃ x0, (flat p)[0]? = some x0 := by
          have := g.ne
          cases e : flat p with
          | nil => exact absurd e this
          | cons x xs => exact ⟨x, rfl⟩
        obtain ⟨r0, hr0⟩ := chO_in (List.mem_of_getElem? hx0)
        refine ⟨_, rfl, _, rfl, lo, _, _, .int x0, rfl, rfl, SqL.of (s5 _ _ h14), atI_in (by decide) (by rw [List.getElem?_map]; show Option.map V.int (flat p)[0]? = _; rw [hx0]; rfl), v, p, x0, r0, rfl, shows_keep s15 S, g.ht, hln, hr0, fun ms l H6 _ _ s6 h6 => ?_⟩
        refine ⟨_, _, _, false, rfl, .tup h6, rfl, false, rfl, iteF ?_⟩
        have s16 := s15.trans s6
        have h46 := s6 _ _ h45
        have T46 : TupsAre H6 ys kl' := T45.keep fun b zs e => s6 _ _ e
        -- how deep
        refine ⟨_, rfl, v, p, rfl, shows_keep s16 S, g.ht, by omega, g.k1, fun H7 s7 => ?_⟩
        have hdp : deep p < 64 := by
          obtain ⟨x, hx, r, hr', hl⟩ := deep_at h p g.ht g.gd g.nd
          have := chO_len p hr'
          omega
        have fd : Fn 1048576 60 (.int (deep p : Int)) := (fn_int (by omega)).mono (by decide) (by decide)
        refine ⟨_, _, rfl, .int _, fd, ?_⟩
        have h47 := s7 _ _ h46
        have T47 : TupsAre H7 ys kl' := T46.keep fun b zs e => s7 _ _ e
        refine ⟨_, rfl, C, rfl, ⟨_, SqL.of h47⟩, [], rfl, fun C3 hC3 => ?_⟩
        refine comp_list (a := C) (xs := ys) (fun i zs H8 => zs = ((kl'.take i).map fun k => (k.length : Int)).map V.int ∧ i ≤ kl'.length ∧ H8 = upd H7 C3 (.lst zs)) ⟨rfl, Nat.zero_le _, rfl⟩ (fun i zs H8 z => ?_) (fun i zs H8 z => ?_) (fun i y zs H8 hy z => ?_) (fun zs H8 z => ?_)
        · obtain ⟨_, _, rfl⟩ := z
          exact SqL.of (same_laid hC3 _ _ h47)
        · obtain ⟨rfl, hi, _⟩ := z
          have := CO5.1
          rw [List.length_map, List.length_map, List.length_take]
          exact small_line (by omega)
        · obtain ⟨rfl, _, rfl⟩ := z
          obtain ⟨a, kk, rfl, hk, hak, _⟩ := T47.get hy
          refine ⟨⟨rfl, rfl⟩, ?_⟩
          refine tyes ?_
          refine ⟨_, rfl, a, _, rfl, .inr (SqT.of (same_laid hC3 _ _ hak)), upd_same, ?_, (List.getElem?_eq_some_iff.mp hk).1, upd_upd⟩
          rw [List.take_add_one, hk, List.map_append, List.map_append, List.length_map]; rfl
        · obtain ⟨rfl, _, rfl⟩ := z
          rw [T47.length, List.take_of_length_le (Nat.le_refl _)]
          have s8 := same_laid (o := .lst ((kl'.map fun k => (k.length : Int)).map V.int)) hC3
          refine ⟨C3, kl'.map fun k => (k.length : Int), rfl, SqL.of upd_same, ?_, fun M hM hmax => ?_⟩
          · intro z
            have := congrArg List.length z
            rw [List.length_map, CO5.1] at this
            exact g.ne (List.length_eq_zero_iff.mp this)
          have eM : M = (deep p : Int) := by
            obtain ⟨kk, hkk, rfl⟩ := List.mem_map.mp hM
            obtain ⟨j, hj, ej⟩ := List.getElem_of_mem hkk
            have hjf : j < (flat p).length := by rw [← CO5.1]; exact hj
            obtain ⟨r, hr', so⟩ := CO5.2 j (flat p)[j] kl'[j] (List.getElem?_eq_getElem hjf) (List.getElem?_eq_getElem hj)
            obtain ⟨rs, _, rl⟩ := chO_sub p hr'
            have l1 := so.len (rs.nodup g.nd)
            rw [ej] at l1
            obtain ⟨x, hx, r2, hr2, hl2⟩ := deep_at h p g.ht g.gd g.nd
            obtain ⟨i, hi, ei⟩ := List.getElem_of_mem hx
            have hik : i < kl'.length := by rw [CO5.1]; exact hi
            obtain ⟨r3, hr3, so3⟩ := CO5.2 i x kl'[i] (by rw [List.getElem?_eq_getElem hi, ei]) (List.getElem?_eq_getElem hik)
            rw [hr2] at hr3
            cases hr3
            obtain ⟨rs2, _, _⟩ := chO_sub p hr2
            have l3 := so3.len (rs2.nodup g.nd)
            have := hmax (kl'[i].length : Int) (List.mem_map.mpr ⟨_, List.getElem_mem hik, rfl⟩)
            omega
          subst eM
          refine ⟨_, _, rfl, .int _, fd, ?_⟩
          refine ⟨rfl, _, rfl, ifT (decide_eq_true rfl) ?_⟩
          refine ⟨_, rfl, v, _, rfl, shows_keep (s16.trans (s7.trans s8)) S, g.fn, _, rfl, rfl, ?_⟩
          rw [decide_eq_true rfl]
          exact k _ (s16.trans (s7.trans s8))
end
/-! ### plans in the heap: tuples alone -/
mutual
theorem pl_keep {H H' : Hp} (k : ∀ b ys, H b = some (.tup ys) → H' b = some (.tup ys)) : ∀ (q : Pln) {v : V}, Shows H v (plD q) → Shows H' v (plD q)
  | .mk ps ks, v, S => by
    obtain ⟨a, b, c, zs, rfl, ha, hb, hc, al⟩ := pl_inv S
    rw [plD]
    exact .tup (k _ _ ha) (.cons (.tup (k _ _ hb) (sh_intsD _)) (.cons (.tup (k _ _ hc) (pls_keep k ks al)) .nil))
theorem pls_keep {H H' : Hp} (k : ∀ b ys, H b = some (.tup ys) → H' b = some (.tup ys)) : ∀ (ks : List Pln) {zs : List V}, ShowsAll H zs (plDs ks) → ShowsAll H' zs (plDs ks)
  | [], zs, S => by
    rw [plDs] at S ⊢
    cases S
    exact .nil
  | q :: ks, zs, S => by
    rw [plDs] at S ⊢
    cases S with
    | cons a b => exact .cons (pl_keep k q a) (pls_keep k ks b)
end
theorem plDs_app : ∀ ks js : List Pln, plDs (ks ++ js) = plDs ks ++ plDs js
  | [], _ => rfl
  | k :: ks, js => by rw [List.cons_append, plDs, plDs, plDs_app ks js]; rfl
theorem flats_app : ∀ ks js : List Pln, flats (ks ++ js) = flats ks ++ flats js
  | [], _ => rfl
  | k :: ks, js => by rw [List.cons_append, flats, flats, flats_app ks js, List.append_assoc]
theorem goods_app : ∀ {ks js : List Pln}, goods ks → goods js → goods (ks ++ js)
  | [], _, _, h => h
  | k :: ks, js, h, h' => by
    rw [goods] at h
    rw [List.cons_append, goods]
    exact ⟨h.1, goods_app h.2 h'⟩
theorem hgts_app : ∀ ks js : List Pln, hgts (ks ++ js) = max (hgts ks) (hgts js)
  | [], _ => by rw [List.nil_append, hgts]; omega
  | k :: ks, js => by rw [List.cons_append, hgts, hgts, hgts_app ks js]; omega
theorem cutV_take (xs : List V) (m : Nat) : cutV xs none (some (m : Int)) = xs.take m := by
  unfold cutV
  rw [HT.sIx_none, HT.sIx_nat, List.drop_zero, Nat.sub_zero]
  by_cases h : m ≤ xs.length
  · rw [Nat.min_eq_left h]
  · rw [Nat.min_eq_right (by omega), List.take_of_length_le (Nat.le_refl _), List.take_of_length_le (by omega)]
theorem cutV_drop (xs : List V) (m : Nat) : cutV xs (some (m : Int)) none = xs.drop m := by
  unfold cutV
  rw [HT.sIx_none, HT.sIx_nat]
  by_cases h : m ≤ xs.length
  · rw [Nat.min_eq_left h, List.take_of_length_le (by rw [List.length_drop]; exact Nat.le_refl _)]
  · rw [Nat.min_eq_right (by omega), Nat.sub_self, List.take_zero, List.drop_of_length_le (by omega)]
theorem TapeP.ne2 {H : Hp} {t p b : Addr} {N : Nat} (h : TapeP H t p N) (hb : H b = none) : b ≠ t ∧ b ≠ p := by
  obtain ⟨ns, spot, rest, h1, h2, _⟩ := h
  exact ⟨(ne_of_none h1 hb).symm, (ne_of_none h2 hb).symm⟩
theorem none_back0 {b : Addr} {H H' : Hp} (s : Same H H') (h : H' b = none) : H b = none := by
  cases e : H b with
  | none => rfl
  | some o => rw [s _ _ e] at h; cases h
theorem none_of_sm {t b : Addr} {H H' : Hp} (s : Sm t H H') (n : b ≠ t) (h : H' b = none) : H b = none := by
  cases e : H b with
  | none => rfl
  | some o => rw [s _ _ n e] at h; cases h
theorem sm_eq {H H' : Hp} {t : Addr} (h : ∀ b, b ≠ t → H' b = H b) : Sm t H H' := fun b o n e => by rw [h b n]; exact e
def spPn (n : Nat) : Sp := fun vs H Q _ => ∃ (t p pa : Addr) (N : Nat) (os : List Int), vs = [.ref t, .ref pa] ∧ TapeP H t p N ∧ N + 2 * os.length < 900000 ∧ pa ≠ t ∧ H pa = some (.lst (os.map V.int)) ∧ 1 ≤ os.length ∧ os.length ≤ n ∧ os.length < 64 ∧
  ∀ (v : V) (q : Pln) (H' : Hp), Shows H' v (plD q) → good q → (flat q).Perm os → hgt q ≤ os.length → TapeP H' t p (N + (2 * os.length - 1)) → Sm t H H' → Q v H'
def PnW (H H2 : Hp) (t p pa D : Addr) (N m : Nat) (os : List Int) (k : Nat) (σ : St) : Prop := ∃ (v5 : Option V) (R : Addr) (rs : List Int) (vs : List V) (ks : List Pln), σ = [some (.ref t), some (.ref pa), some (.int m), some (.ref R), some (.ref D), v5] ∧ R ≠ t ∧ R ≠ D ∧ H2 R = some (.lst (rs.map V.int)) ∧ H2 D = some (.lst vs) ∧ ShowsAll H2 vs (plDs ks) ∧ goods ks ∧ (flats ks ++ rs).Perm (os.drop m) ∧ hgts ks + m ≤ os.length ∧ rs.length = k ∧ ks.length + k ≤ os.length ∧ k + m ≤ os.length ∧ TapeP H2 t p (N + 1 + 2 * (os.length - m - k)) ∧ Sm t H H2
section
variable {P : Program} {w : World} {K : PySem.W.Frag} {mg : Str → Option Value} {base : Heap}
theorem scPn : FnScope ["_law_tape_here", "_law_pool", "_law_many", "_law_rest", "_law_plans", "_law_cut"] ["_law_tape_here", "_law_pool"] (defScope sPn) := ⟨rfl, rfl, rfl, by decide +kernel, rfl, by decide +kernel, by decide +kernel⟩
theorem ok_pn {f fD : Addr} {fd' fdD : FuncData} (F : Fun K "_law_plan" "_law_plan" sPn f fd') (bF : Binds K fd' ["_law_tape_here", "_law_pool"] []) (mF : mg "_law_plan" = some (.ref f)) (FD : Fun K "_law_draw" "_law_draw" sDraw fD fdD) (bD : Binds K fdD ["_law_tape_here", "_law_many"] []) (mD : mg "_law_draw" = some (.ref fD))
    (mLen : mg "len" = none) (mMin : mg "min" = none) (mTuple : mg "tuple" = none) (mSorted : mg "sorted" = none) : ∀ n : Nat, FnOk P w K mg base CX0 (n + 1) f fd' ["_law_tape_here", "_law_pool"] (spPn n)
  | 0 => F.ok scPn (fun vs H Q E h => by obtain ⟨t, p, pa, N, os, rfl, _⟩ := h; rfl) (fun cdv A outer s H vs Q E hr h => by
      obtain ⟨t, p, pa, N, os, rfl, _, _, _, _, h1, h2, _⟩ := h
      omega)
  | n + 1 => by
    have GP := ok_pn F bF mF FD bD mD mLen mMin mTuple mSorted n
    have GD : FnOk P w K mg base CX0 (n + 1) fD fdD ["_law_tape_here", "_law_many"] spDrawP := (ok_drawP FD mLen).mono (by omega)
    refine F.ok scPn (fun vs H Q E h => ?_) (fun cdv A outer s H vs Q E hr h => ?_)
    · obtain ⟨t, p, pa, N, os, rfl, _⟩ := h
      rfl
    · obtain ⟨t, p, pa, N, os, rfl, T, hN, npt, hpa, h1, hn, h64, k⟩ := h
      have hu0 := hr.units0
      refine ⟨_, pss_cons (ps_set (i := 2) scPn.nd rfl (Or.inl rfl) (pe_op op_add pe_int (pe_call GD hr rfl mD FD.kp bD .nil pass0 (pa_cons (pv 0) (pa_cons (pe_callB (call_min2 rfl) (by rfl) mMin (by decide +kernel) (pa_cons pe_int (pa_cons (pe_callB call_len_seq (by rfl) mLen PySem.boot_len (pa_cons (pv 1) pa_nil)) pa_nil))) pa_nil)))))
        (pss_cons (ps_set (i := 3) scPn.nd rfl (Or.inl rfl) (pe_slice sl_list (pv 1) (po_some (pv 2)) po_none))
        (pss_cons (ps_set (i := 4) scPn.nd rfl (Or.inl rfl) (pe_lst pa_nil))
        (pss_cons (ps_while PassesOwn.never (pt_cmpR (op_neE hu0) (pv 3) (pe_lst pa_nil) (nomark _))
          (pss_cons (ps_set (i := 5) scPn.nd rfl (Or.inl rfl) (pe_op op_add pe_int (pe_call GD hr rfl mD FD.kp bD .nil pass0 (pa_cons (pv 0) (pa_cons (pe_callB call_len_seq (by rfl) mLen PySem.boot_len (pa_cons (pv 3) pa_nil)) pa_nil)))))
          (pss_cons (ps_expr (pe_bm PySem.F.plainAttrs_list PySem.F.slot_list_append PySem.F.type_list_append mt_append (pv 4) (pa_cons (pe_call GP hr rfl mF F.kp bF .nil pass0 (pa_cons (pv 0) (pa_cons (pe_slice sl_list (pv 3) po_none (po_some (pv 5))) pa_nil))) pa_nil)))
          (pss_one (ps_set (i := 3) scPn.nd rfl (Or.inl rfl) (pe_slice sl_list (pv 3) (po_some (pv 5)) po_none))))))
        (pss_one (ps_ret (pe_tup (pa_cons (pe_callTy call_tuple_of (by rfl) mTuple (by decide +kernel) (pa_cons (pe_callB call_sortedI (by rfl) mSorted (by decide +kernel) (pa_cons (pe_slice sl_list (pv 1) po_none (po_some (pv 2))) pa_nil)) pa_nil)) (pa_cons (pe_callTy call_tuple_of (by rfl) mTuple (by decide +kernel) (pa_cons (pv 4) pa_nil)) pa_nil)))))))), ?_⟩
      refine ⟨_, rfl, _, rfl, pa, _, rfl, .inl (SqL.of hpa), _, _, rfl, ?_⟩
      rw [List.length_map]
      refine ⟨t, p, N, _, rfl, T, by omega, by split <;> omega, by split <;> omega, fun r0 H1 a0 b0 T1 e1 => ?_⟩
      refine ⟨_, _, rfl, rfl, ?_⟩
      obtain ⟨m, hm⟩ : ∃ m : Nat, 1 + r0 = (m : Int) := ⟨(1 + r0).toNat, by omega⟩
      have hm1 : 1 ≤ m := by omega
      have hmo : m ≤ os.length := by
        have : r0 < os.length := by split at b0 <;> omega
        omega
      show gName 2 (V.int (1 + r0)) _ _ _
      rw [hm]
      have s1 : Sm t H H1 := sm_eq e1
      have hpa1 := s1 _ _ npt hpa
      refine ⟨_, rfl, _, rfl, (m : Int), rfl, pa, _, rfl, SqL.of hpa1, fun R hR => ?_⟩
      rw [cutV_drop, ← List.map_drop]
      have nRt := T1.ne2 hR
      have s2 := same_laid (o := .lst ((os.drop m).map V.int)) hR
      refine ⟨Nat.zero_le _, fun D hD => ?_⟩
      have s3 := same_laid (o := .lst []) hD
      have T2 : TapeP (upd H1 R (.lst ((os.drop m).map V.int))) t p (N + 1) := T1.keepF (fun o e => s2 _ _ e) (fun o e => s2 _ _ e) (Nat.le_refl _)
      have nDt := T2.ne2 hD
      have hD1 : H1 D = none := none_back0 s2 hD
      have hD0 : H D = none := none_of_sm s1 nDt.1 hD1
      refine ⟨fun k' σ H2 => PnW H H2 t p pa D N m os k' σ, ⟨(os.drop m).length, none, R, os.drop m, [], [], rfl, nRt.1, (ne_of_none upd_same hD), s3 _ _ upd_same, upd_same, .nil, trivial, List.Perm.refl _, by rw [hgts]; omega, rfl, by rw [List.length_drop, List.length_nil]; omega, by rw [List.length_drop]; omega, T2.keepF (fun o e => s3 _ _ e) (fun o e => s3 _ _ e) (by omega), (s1.trans (Sm.of s2)).trans (Sm.of s3)⟩, fun k' σ H2 z => ?_⟩
      clear T1 T2 hR hD s1 s2 s3 hpa1 hD1 nRt nDt R e1
      obtain ⟨v5, R, rs, vs, ks, rfl, nRt, nRD, hR, hD2, SA, gk, pm, hh, rfl, hkl, hkm, T2, s2⟩ := z
      have npD : pa ≠ D := ne_of_none hpa hD0
      have nDt : D ≠ t := by
        obtain ⟨_, _, _, h0, _⟩ := id T
        exact (ne_of_none h0 hD0).symm
      have nDp : D ≠ p := by
        obtain ⟨_, _, _, _, h0, _⟩ := id T
        exact (ne_of_none h0 hD0).symm
      have hvl := shAll_len SA
      rw [plDs_len] at hvl
      refine ⟨_, rfl, Nat.zero_le _, fun b hb => ?_⟩
      have sb := same_laid (o := .lst []) hb
      have hbb : (upd H2 b (.lst [])) b = some (.lst []) := upd_same
      have T3 : TapeP (upd H2 b (.lst [])) t p (N + 1 + 2 * (os.length - m - rs.length)) := T2.keepF (fun o e => sb _ _ e) (fun o e => sb _ _ e) (Nat.le_refl _)
      have hR3 := sb _ _ hR
      have hD3 := sb _ _ hD2
      have SA3 := shAll_keep sb SA
      have s3 : Sm t H (upd H2 b (.lst [])) := s2.trans (Sm.of sb)
      generalize upd H2 b (.lst []) = H3 at hbb T3 hR3 hD3 SA3 s3 ⊢
      clear T2 hR hD2 SA s2 sb hb
      refine ⟨R, b, _, rfl, rfl, SqL.of hR3, SqL.of hbb, _, rfl, ?_⟩
      by_cases ce : rs = []
      · subst ce
        refine ifF rfl ?_
        have hpa3 := s3 _ _ npt hpa
        refine ⟨_, rfl, _, rfl, (m : Int), rfl, pa, _, rfl, SqL.of hpa3, fun S hS => ?_⟩
        rw [cutV_take, ← List.map_take]
        have t1 := same_laid (o := .lst ((os.take m).map V.int)) hS
        refine ⟨S, os.take m, rfl, SqL.of upd_same, by rw [List.length_take]; omega, fun l1 ms hl1 pm1 so => ?_⟩
        have t2 := same_laid (o := .lst (ms.map V.int)) hl1
        refine ⟨l1, _, rfl, .inl ⟨SqL.of upd_same, fun l2 hl2 => ?_⟩⟩
        have t3 := same_laid (o := .tup (ms.map V.int)) hl2
        have t123 := t1.trans (t2.trans t3)
        have hl22 : (upd (upd (upd H3 S (.lst ((os.take m).map V.int))) l1 (.lst (ms.map V.int))) l2 (.tup (ms.map V.int))) l2 = some (.tup (ms.map V.int)) := upd_same
        generalize upd (upd (upd H3 S (.lst ((os.take m).map V.int))) l1 (.lst (ms.map V.int))) l2 (.tup (ms.map V.int)) = H4 at t123 hl22 ⊢
        refine ⟨_, rfl, D, _, rfl, .inl ⟨SqL.of (t123 _ _ hD3), fun l3 hl3 => ?_⟩⟩
        have t4 := same_laid (o := .tup vs) hl3
        refine ⟨by show 2 ≤ sizeLine; decide, fun l4 hl4 => ?_⟩
        have t5 := same_laid (o := .tup [V.ref l2, V.ref l3]) hl4
        have t45 := t4.trans t5
        have tt := t123.trans t45
        rw [List.append_nil] at pm
        refine k (.ref l4) (.mk ms ks) _ ?_ ?_ ?_ ?_ (T3.keepF (fun o e => tt _ _ e) (fun o e => tt _ _ e) (by rw [List.length_nil]; omega)) (s3.trans (Sm.of tt))
        · rw [plD]
          exact .tup upd_same (.cons (.tup (t45 _ _ hl22) (sh_intsD _)) (.cons (.tup (t5 _ _ upd_same) (shAll_keep tt SA3)) .nil))
        · rw [good]
          refine ⟨fun z => ?_, gk⟩
          have := pm1.length_eq
          rw [z, List.length_take, List.length_nil] at this
          omega
        · rw [flat]
          have := pm1.append pm
          rw [List.take_append_drop] at this
          exact this
        · rw [hgt]
          omega
      · have hrl : 0 < rs.length := List.length_pos_iff.mpr ce
        have e0 : (!(rs.map V.int).isEmpty) = true := by cases rs with
          | nil => exact absurd rfl ce
          | cons _ _ => rfl
        refine ifT e0 ?_
        refine ⟨fun σ' H' => ∃ m', m' < rs.length ∧ PnW H H' t p pa D N m os m' σ', fun σ' H' z => z, ?_⟩
        refine ⟨_, rfl, _, rfl, R, _, rfl, .inl (SqL.of hR3), t, p, _, _, rfl, T3, by omega, by rw [List.length_map]; omega, by rw [List.length_map]; omega, fun rc H4 c0 c1 T4 e4 => ?_⟩
        rw [List.length_map] at c1
        refine ⟨_, _, rfl, rfl, ?_⟩
        obtain ⟨c, hc⟩ : ∃ c : Nat, 1 + rc = (c : Int) := ⟨(1 + rc).toNat, by omega⟩
        have hc1 : 1 ≤ c := by omega
        have hcr : c ≤ rs.length := by omega
        show gName 5 (V.int (1 + rc)) _ _ _
        rw [hc]
        have s34 : Sm t H3 H4 := sm_eq e4
        have hR4 := s34 _ _ nRt hR3
        have hD4 := s34 _ _ nDt hD3
        refine ⟨_, rfl, .inl ⟨rfl, _, SqL.of hD4⟩, ?_⟩
        refine ⟨_, rfl, _, rfl, _, rfl, (c : Int), rfl, R, _, rfl, SqL.of hR4, fun S hS => ?_⟩
        rw [cutV_take, ← List.map_take]
        have t5 := same_laid (o := .lst ((rs.take c).map V.int)) hS
        have T5 : TapeP (upd H4 S (.lst ((rs.take c).map V.int))) t p (N + 1 + 2 * (os.length - m - rs.length) + 1) := T4.keepF (fun o e => t5 _ _ e) (fun o e => t5 _ _ e) (Nat.le_refl _)
        have nSt := T4.ne2 hS
        have lt : (rs.take c).length = c := by rw [List.length_take]; omega
        refine ⟨t, p, S, _, rs.take c, rfl, T5, by rw [lt]; omega, nSt.1, upd_same, by omega, by omega, by omega, fun v q H6 Sv gq pq hq T6 s6 => ?_⟩
        rw [lt] at hq T6
        have hD6 := s6 _ _ nDt (t5 _ _ hD4)
        have hR6 := s6 _ _ nRt (t5 _ _ hR4)
        refine ⟨D, vs, v, rfl, rfl, hD6, by rw [hvl]; exact small_line (by omega), ?_⟩
        have hR7 : (upd H6 D (.lst (vs ++ [v]))) R = some (.lst (rs.map V.int)) := by rw [upd_ne nRD]; exact hR6
        refine ⟨_, rfl, _, rfl, (c : Int), rfl, R, _, rfl, SqL.of hR7, fun R' hR' => ?_⟩
        rw [cutV_drop, ← List.map_drop]
        have hD7 : (upd H6 D (.lst (vs ++ [v]))) D = some (.lst (vs ++ [v])) := upd_same
        have nR'D : R' ≠ D := (ne_of_none hD7 hR').symm
        have t8 := same_laid (o := .lst ((rs.drop c).map V.int)) hR'
        have k6 : ∀ b ys, H6 b = some (.tup ys) → (upd (upd H6 D (.lst (vs ++ [v]))) R' (.lst ((rs.drop c).map V.int))) b = some (.tup ys) := fun b ys e => by
          refine t8 _ _ ?_
          rw [upd_ne (ne_of e hD6 (by intro z; cases z))]
          exact e
        have k36 : ∀ b ys, H3 b = some (.tup ys) → H6 b = some (.tup ys) := fun b ys e => by
          have nb : b ≠ t := by
            obtain ⟨_, _, _, h0, _⟩ := id T3
            exact ne_of e h0 (by intro z; cases z)
          exact s6 _ _ nb (t5 _ _ (s34 _ _ nb e))
        have T7 : TapeP (upd H6 D (.lst (vs ++ [v]))) t p (N + 1 + 2 * (os.length - m - rs.length) + 1 + (2 * c - 1)) := T6.keepF (fun o e => by rw [upd_ne nDt.symm]; exact e) (fun o e => by rw [upd_ne nDp.symm]; exact e) (Nat.le_refl _)
        have nR't := T7.ne2 hR'
        have ld : (rs.drop c).length = rs.length - c := List.length_drop
        refine ⟨(rs.drop c).length, by omega, _, R', rs.drop c, vs ++ [v], ks ++ [q], rfl, nR't.1, nR'D, upd_same, t8 _ _ hD7, ?_, goods_app gk ⟨gq, trivial⟩, ?_, ?_, rfl, ?_, by omega, T7.keepF (fun o e => t8 _ _ e) (fun o e => t8 _ _ e) (by omega), ?_⟩
        · rw [plDs_app]
          exact shAll_app (pls_keep (fun b ys e => k6 b ys (k36 b ys e)) ks SA3) (.cons (pl_keep k6 q Sv) .nil)
        · rw [flats_app, flats, flats, List.append_nil, List.append_assoc]
          refine List.Perm.trans (List.Perm.append_left _ ?_) pm
          have := pq.append_right (rs.drop c)
          rw [List.take_append_drop] at this
          exact this
        · rw [hgts_app, hgts, hgts]
          omega
        · rw [List.length_append, ld]
          show ks.length + 1 + _ ≤ _
          omega
        · exact ((((s3.trans s34).trans (Sm.of t5)).trans s6).chg hD0).trans (Sm.of t8)
end
structure Ordr (n : Int) (os : List Int) : Prop where
  ln : os.length = n.toNat
  nd : os.Nodup
  rng : ∀ p ∈ os, 0 ≤ p ∧ p < n
theorem ints_len (q : Nat) : (lowTo q).length = q := by unfold lowTo; rw [List.length_map, List.length_range]
/-! ### the law's order, counts of entries -/
theorem erase_map : ∀ (l : List Int) (k : Nat), (l.map V.int).eraseIdx k = (l.eraseIdx k).map V.int
  | [], _ => rfl
  | _ :: _, 0 => rfl
  | x :: r, k + 1 => by
    show V.int x :: (r.map V.int).eraseIdx k = V.int x :: (r.eraseIdx k).map V.int
    rw [erase_map r k]
theorem erase_perm : ∀ {l : List Int} {k : Nat} (h : k < l.length), (l[k] :: l.eraseIdx k).Perm l
  | [], _, h => absurd h (Nat.not_lt_zero _)
  | _ :: _, 0, _ => List.Perm.refl _
  | x :: r, k + 1, h => by
    have hk : k < r.length := by simpa using h
    show (r[k] :: x :: r.eraseIdx k).Perm (x :: r)
    exact (List.Perm.swap x r[k] _).trans ((erase_perm hk).cons x)
def spOrder : Sp := fun vs H Q _ => ∃ (t : Addr) (N : Nat) (n : Int), vs = [.ref t, .int n] ∧ TapeAt H t N ∧ N < 900000 ∧ 1 ≤ n ∧ n ≤ 24 ∧
  ∀ (l : Addr) (os : List Int) (H' : Hp), H' l = some (.tup (os.map V.int)) → Ordr n os → TapeAt H' t (N + 24) → Sm t H H' → Q (.ref l) H'
section
variable {P : Program} {w : World} {K : PySem.W.Frag} {mg : Str → Option Value} {base : Heap}
theorem scOrder : FnScope ["_law_tape_here", "_law_n", "_law_left", "_law_found", "_law_k"] ["_law_tape_here", "_law_n"] (defScope sOrder) := ⟨rfl, rfl, rfl, by decide +kernel, rfl, by decide +kernel, by decide +kernel⟩
theorem ok_order {f fD : Addr} {fd' fdD : FuncData} (F : Fun K "_law_order" "_law_order" sOrder f fd') (FD : Fun K "_law_draw" "_law_draw" sDraw fD fdD) (bD : Binds K fdD ["_law_tape_here", "_law_many"] []) (mD : mg "_law_draw" = some (.ref fD))
    (mLen : mg "len" = none) (mRange : mg "range" = none) (mTuple : mg "tuple" = none) (mList : mg "list" = none) : FnOk P w K mg base CX0 2 f fd' ["_law_tape_here", "_law_n"] spOrder := by
  have GD : FnOk P w K mg base CX0 1 fD fdD ["_law_tape_here", "_law_many"] spDrawP := ok_drawP FD mLen
  refine F.ok scOrder (fun vs H Q E h => ?_) (fun cdv A outer s H vs Q E hr h => ?_)
  · obtain ⟨t, N, n, rfl, _⟩ := h
    rfl
  · obtain ⟨t, N, n, rfl, TT, hN, hn1, hn24, k⟩ := h
    obtain ⟨tp, TP⟩ := TT
    refine ⟨_, pss_cons (ps_set (i := 2) scOrder.nd rfl (Or.inl rfl) (pe_lrange rfl rfl mList rfl mRange (pa_cons (pv 1) pa_nil)))
      (pss_cons (ps_set (i := 3) scOrder.nd rfl (Or.inl rfl) (pe_lst pa_nil))
      (pss_cons (ps_for PassesOwn.never rfl (pi_range1 rfl mRange (pa_cons (pv 1) pa_nil)) (pg_name (i := 4) scOrder.nd rfl (Or.inl rfl))
        (pss_one (ps_expr (pe_bm PySem.F.plainAttrs_list PySem.F.slot_list_append PySem.F.type_list_append mt_append (pv 3)
          (pa_cons (pe_bm PySem.F.plainAttrs_list PySem.F.slot_list_pop PySem.F.type_list_pop mt_popAt (pv 2)
            (pa_cons (pe_call GD hr rfl mD FD.kp bD .nil pass0 (pa_cons (pv 0) (pa_cons (pe_callB call_len_seq (by rfl) mLen PySem.boot_len (pa_cons (pv 2) pa_nil)) pa_nil))) pa_nil)) pa_nil)))))
      (pss_one (ps_ret (pe_callTy call_tuple_of (by rfl) mTuple (by decide +kernel) (pa_cons (pv 3) pa_nil)))))), ?_⟩
    refine ⟨_, rfl, n, rfl, by omega, by omega, fun lf hlf => ?_⟩
    obtain ⟨ns0, sp0, re0, ht0, hp0, _⟩ := id TP
    have nlt : lf ≠ t := (ne_of_none ht0 hlf).symm
    have nlp : lf ≠ tp := (ne_of_none hp0 hlf).symm
    refine ⟨Nat.zero_le _, fun D hD => ?_⟩
    have nDl : D ≠ lf := fun z => by rw [z, upd_same] at hD; cases hD
    have hD0 : H D = none := by rw [upd_ne nDl] at hD; exact hD
    have nDt : D ≠ t := (ne_of_none ht0 hD0).symm
    have nDp : D ≠ tp := (ne_of_none hp0 hD0).symm
    refine ⟨_, rfl, n, rfl, by omega, by omega, for_range (lo := 0) (n := n.toNat) (fun q σ H2 => ∃ (v4 : Option V) (row left : List Int), σ = [some (.ref t), some (.int n), some (.ref lf), some (.ref D), v4] ∧ row.length = q ∧ (row ++ left).Perm (lowTo n.toNat) ∧ H2 lf = some (.lst (left.map V.int)) ∧ H2 D = some (.lst (row.map V.int)) ∧ TapeP H2 t tp (N + q) ∧ Sm t H H2)
      ⟨none, [], lowTo n.toNat, rfl, rfl, List.Perm.refl _, by rw [upd_ne nDl.symm, upd_same], upd_same, TP.keepF (fun o e => by rw [upd_ne nDt.symm, upd_ne nlt.symm]; exact e) (fun o e => by rw [upd_ne nDp.symm, upd_ne nlp.symm]; exact e) (by omega), (Sm.laid hlf).chg hD0⟩ ?turn ?after⟩
    case after =>
      rintro σ H2 ⟨v4, row, left, rfl, hl, hp, hlf2, hD2, TP2, s2⟩
      have hleft : left = [] := by
        have := hp.length_eq
        rw [List.length_append, ints_len, hl] at this
        exact List.length_eq_zero_iff.mp (by omega)
      subst hleft
      rw [List.append_nil] at hp
      have nd : row.Nodup := hp.nodup_iff.mpr ((ints_rise _).imp fun h => by omega)
      refine ⟨_, rfl, D, _, rfl, .inl ⟨SqL.of hD2, fun l hl' => ?_⟩⟩
      refine k l row _ upd_same ⟨hl, nd, fun p hp' => ?_⟩ (TapeAt.mono (TapeAt.laid ⟨tp, TP2⟩ hl') (by omega)) (s2.trans (Sm.laid hl'))
      have := mem_ints.mp (hp.mem_iff.mp hp')
      omega
    case turn =>
      rintro q σ H2 hq ⟨v4, row, left, rfl, hl, hp, hlf2, hD2, TP2, s2⟩
      have hll : row.length + left.length = n.toNat := by
        have := hp.length_eq
        rw [List.length_append, ints_len] at this
        exact this
      refine ⟨_, rfl, .inl ⟨rfl, _, SqL.of hD2⟩, _, rfl, .inl ⟨rfl, _, SqL.of hlf2⟩, ?_⟩
      refine ⟨_, rfl, _, rfl, lf, _, rfl, .inl (SqL.of hlf2), t, tp, N + q, _, rfl, TP2, by omega, by rw [List.length_map]; omega, by rw [List.length_map]; omega, fun rr H3 h0 h1 TP3 e3 => ?_⟩
      rw [List.length_map] at h1
      have hlt : rr.toNat < left.length := by omega
      refine ⟨lf, left.map V.int, rr, rr.toNat, .int left[rr.toNat], rfl, rfl, by rw [e3 lf nlt]; exact hlf2, by omega, by omega, PySem.StrLaws.seqIndex_nonneg h0 (by rw [List.length_map]; omega), by rw [List.getElem?_map, List.getElem?_eq_getElem hlt]; rfl, ?_⟩
      rw [erase_map left rr.toNat]
      have s3 : Sm t H H3 := fun b o nb e => by rw [e3 b nb]; exact s2 b o nb e
      have hlf0 : H lf = none := hlf
      refine ⟨D, _, _, rfl, rfl, by rw [upd_ne nDl, e3 D nDt]; exact hD2, by rw [List.length_map]; exact small_line (by omega), ?_⟩
      refine ⟨_, row ++ [left[rr.toNat]], left.eraseIdx rr.toNat, rfl, by rw [List.length_append, hl]; rfl, ?_, by rw [upd_ne nDl.symm, upd_same], by rw [List.map_append]; exact upd_same, TP3.keepF (fun o e => by rw [upd_ne nDt.symm, upd_ne nlt.symm]; exact e) (fun o e => by rw [upd_ne nDp.symm, upd_ne nlp.symm]; exact e) (by omega), (s3.chg hlf0).chg hD0⟩
      refine List.Perm.trans ?_ hp
      rw [List.append_assoc]
      exact (erase_perm hlt).append_left row
end
/-! ### a plan's data -/
mutual
theorem pl_data : ∀ (q : Pln), good q → (∀ x ∈ flat q, x.natAbs ≤ 100) → (flat q).length ≤ 30 → IB 100 30 (plD q) ∧ ks1000 q ∧ 1 ≤ (flat q).length ∧ Fn (34 * (flat q).length - 1) (2 * hgt q) (plD q)
  | .mk ps ks, g, hb, hl => by
    rw [good] at g
    rw [flat] at hb hl ⊢
    rw [List.length_append] at hl ⊢
    have hp : 0 < ps.length := List.length_pos_iff.mpr g.1
    obtain ⟨h1, h2, h3, h4⟩ := pls_data ks g.2 (fun x hx => hb x (List.mem_append.mpr (.inr hx))) (by omega)
    rw [plD, ks1000, hgt]
    have i1 : IB 100 30 (.tuple (ps.map PyData.int)) := .tup _ (by rw [List.length_map]; omega) fun d hd => by
      obtain ⟨x, hx, rfl⟩ := List.mem_map.mp hd
      exact .int _ (hb x (List.mem_append.mpr (.inl hx)))
    have i2 : IB 100 30 (.tuple (plDs ks)) := .tup _ (by rw [plDs_len]; omega) fun d hd => (h1 d hd).1
    have f1 : Fn (ps.length * 31) 1 (.tuple (ps.map PyData.int)) := fn_tup (n := 30) (p := 0) (L := ps.length) (fun d hd => by
      obtain ⟨x, hx, rfl⟩ := List.mem_map.mp hd
      have := hb x (List.mem_append.mpr (.inl hx))
      exact fn_int (by omega)) (by rw [List.length_map]; exact Nat.le_refl _)
    have f2 : Fn (34 * (flats ks).length) (2 * hgts ks + 1) (.tuple (plDs ks)) := fn_mkT (fun d hd => (h1 d hd).2) h4
    refine ⟨.tup _ (by show 2 ≤ 30; decide) fun d hd => ?_, ⟨by omega, h2⟩, by omega, (fn_mkT (p := 2 * hgts ks + 1) (w := 34 * (ps.length + (flats ks).length) - 1) (fun d hd => ?_) ?_).mono (Nat.le_refl _) (by omega)⟩
    · simp only [List.mem_cons, List.not_mem_nil, or_false] at hd
      rcases hd with rfl | rfl
      · exact i1
      · exact i2
    · simp only [List.mem_cons, List.not_mem_nil, or_false] at hd
      rcases hd with rfl | rfl
      · exact ⟨_, f1.mono (Nat.le_refl _) (by omega)⟩
      · exact ⟨_, f2⟩
    · have w1 := f1.wt
      have w2 := f2.wt
      have e : PyData.weightAll [PyData.tuple (ps.map PyData.int), PyData.tuple (plDs ks)] = (PyData.tuple (ps.map PyData.int)).weight + 1 + ((PyData.tuple (plDs ks)).weight + 1) := by
        rw [show [PyData.tuple (ps.map PyData.int), PyData.tuple (plDs ks)] = [PyData.tuple (ps.map PyData.int)] ++ [PyData.tuple (plDs ks)] from rfl, wt_append, wt_one, wt_one]
      rw [e]
      omega
theorem pls_data : ∀ (ks : List Pln), goods ks → (∀ x ∈ flats ks, x.natAbs ≤ 100) → (flats ks).length ≤ 30 → (∀ d ∈ plDs ks, IB 100 30 d ∧ ∃ n, Fn n (2 * hgts ks) d) ∧ ks1 ks ∧ ks.length ≤ (flats ks).length ∧ PyData.weightAll (plDs ks) ≤ 34 * (flats ks).length
  | [], _, _, _ => by
    rw [plDs, ks1]
    exact ⟨(fun d hd => by cases hd), trivial, Nat.zero_le _, Nat.zero_le _⟩
  | k :: ks, g, hb, hl => by
    rw [goods] at g
    rw [flats] at hb hl ⊢
    rw [List.length_append] at hl ⊢
    obtain ⟨a1, a2, a3, a4⟩ := pl_data k g.1 (fun x hx => hb x (List.mem_append.mpr (.inl hx))) (by omega)
    obtain ⟨h1, h2, h3, h4⟩ := pls_data ks g.2 (fun x hx => hb x (List.mem_append.mpr (.inr hx))) (by omega)
    rw [plDs, ks1, hgts]
    refine ⟨fun d hd => ?_, ⟨a2, h2⟩, by rw [List.length_cons]; omega, ?_⟩
    · rcases List.mem_cons.mp hd with rfl | hd
      · exact ⟨a1, _, a4.mono (Nat.le_refl _) (by omega)⟩
      · obtain ⟨b1, n, b2⟩ := h1 d hd
        exact ⟨b1, n, b2.mono (Nat.le_refl _) (by omega)⟩
    · have e : PyData.weightAll (plD k :: plDs ks) = (plD k).weight + 1 + PyData.weightAll (plDs ks) := by
        rw [show plD k :: plDs ks = [plD k] ++ plDs ks from rfl, wt_append, wt_one]
      have := a4.wt
      rw [e]
      omega
end
structure PlB (q : Pln) : Prop where
  gd : good q
  sm : ∀ x ∈ flat q, x.natAbs ≤ 100
  ln : (flat q).length ≤ 30
  ht : hgt q ≤ 26
theorem PlB.ib {q : Pln} (h : PlB q) : IB 100 30 (plD q) := (pl_data q h.gd h.sm h.ln).1
theorem PlB.fn {q : Pln} (h : PlB q) : Fn 1020 52 (plD q) := by
  have := h.ln
  have := h.ht
  exact (pl_data q h.gd h.sm h.ln).2.2.2.mono (by omega) (by omega)
theorem PlB.ok {q : Pln} (h : PlB q) (nd : (flat q).Nodup) : PlOk 26 q :=
  ⟨h.ht, by have := h.ln; omega, (pl_data q h.gd h.sm h.ln).2.1, h.gd, nd, fun x hx => by have := h.sm x hx; omega, h.fn.mono (by decide) (by decide)⟩
/-! ### _law_deep -/
def dq (m : Int) : Nat → Pln
  | 0 => .mk [m] []
  | i + 1 => .mk [(i : Int)] [dq m i]
theorem dq_flat (m : Int) : ∀ i, (flat (dq m i)).length = i + 1 ∧ hgt (dq m i) = i + 1 ∧ good (dq m i) ∧ ∀ x ∈ flat (dq m i), (0 ≤ x ∧ x < i) ∨ x = m
  | 0 => by
    rw [dq, flat, flats, hgt, hgts, good, goods]
    exact ⟨rfl, rfl, ⟨by simp, trivial⟩, fun x hx => .inr (by simpa using hx)⟩
  | i + 1 => by
    obtain ⟨h1, h2, h3, h4⟩ := dq_flat m i
    rw [dq, flat, flats, flats, hgt, hgts, hgts, good, goods, goods, h2]
    refine ⟨?_, by omega, ⟨by simp, h3, trivial⟩, fun x hx => ?_⟩
    · rw [List.append_nil, List.length_append, h1]
      show 1 + (i + 1) = _
      omega
    · rw [List.append_nil] at hx
      rcases List.mem_append.mp hx with hx | hx
      · have : x = (i : Int) := by simpa using hx
        omega
      · have := h4 x hx
        omega
theorem dq_nd (m : Int) : ∀ i : Nat, (i : Int) ≤ m → (flat (dq m i)).Nodup
  | 0, _ => by
    rw [dq, flat, flats]
    simp
  | i + 1, h => by
    obtain ⟨_, _, _, h4⟩ := dq_flat m i
    rw [dq, flat, flats, flats, List.append_nil]
    refine List.nodup_append.mpr ⟨by simp, dq_nd m i (by omega), fun a ha b hb => ?_⟩
    have : a = (i : Int) := by simpa using ha
    have := h4 b hb
    omega
def spLd : Sp := fun vs H Q _ => ∃ (m : Nat), vs = [.int m] ∧ 1 ≤ m ∧ m ≤ 30 ∧ ∀ (v : V) (H' : Hp), Shows H' v (plD (dq m (m - 1))) → Same H H' → Q v H'
section
variable {P : Program} {w : World} {K : PySem.W.Frag} {mg : Str → Option Value} {base : Heap}
theorem scLd : FnScope ["_law_many", "_law_plan_here", "_law_k"] ["_law_many"] (defScope sLd) := ⟨rfl, rfl, rfl, by decide +kernel, rfl, by decide +kernel, by decide +kernel⟩
theorem ok_ld {f : Addr} {fd' : FuncData} (F : Fun K "_law_deep" "_law_deep" sLd f fd') (mRange : mg "range" = none) : FnOk P w K mg base CX0 1 f fd' ["_law_many"] spLd := by
  refine F.ok scLd (fun vs H Q E h => ?_) (fun cdv A outer s H vs Q E hr h => ?_)
  · obtain ⟨m, rfl, _⟩ := h
    rfl
  · obtain ⟨m, rfl, h1, h30, k⟩ := h
    refine ⟨_, pss_cons (ps_set (i := 1) scLd.nd rfl (Or.inl rfl) (pe_tup (pa_cons (pe_tup (pa_cons (pv 0) pa_nil)) (pa_cons (pe_tup pa_nil) pa_nil))))
      (pss_cons (ps_for PassesOwn.never rfl (pi_range1 rfl mRange (pa_cons (pe_op op_sub (pv 0) pe_int) pa_nil)) (pg_name (i := 2) scLd.nd rfl (Or.inl rfl))
        (pss_one (ps_set (i := 1) scLd.nd rfl (Or.inl rfl) (pe_tup (pa_cons (pe_tup (pa_cons (pv 2) pa_nil)) (pa_cons (pe_tup (pa_cons (pv 1) pa_nil)) pa_nil))))))
      (pss_one (ps_ret (pv 1)))), ?_⟩
    refine ⟨_, rfl, by show 1 ≤ sizeLine; decide, fun a ha => ?_⟩
    refine ⟨by show 0 ≤ sizeLine; decide, fun b hb => ?_⟩
    refine ⟨by show 2 ≤ sizeLine; decide, fun c hc => ?_⟩
    have s1 := same_laid (o := .tup [V.int m]) ha
    have s2 := same_laid (o := .tup []) hb
    have s3 := same_laid (o := .tup [V.ref a, V.ref b]) hc
    refine ⟨_, rfl, _, _, rfl, rfl, (m : Int) - 1, rfl, by omega, by omega, for_range (lo := 0) (n := ((m : Int) - 1).toNat) (fun i σ H2 => ∃ (v : V) (vk : Option V), σ = [some (.int m), some v, vk] ∧ Shows H2 v (plD (dq m i)) ∧ Same H H2)
      ⟨_, none, rfl, ?_, s1.trans (s2.trans s3)⟩ (fun i σ H2 hi z => ?_) (fun σ H2 z => ?_)⟩
    · show Shows _ _ (plD (dq m 0))
      rw [dq, plD, plDs]
      exact .tup upd_same (.cons (.tup (s3 _ _ (s2 _ _ upd_same)) (.cons (.int _) .nil)) (.cons (.tup (s3 _ _ upd_same) .nil) .nil))
    · obtain ⟨v, vk, rfl, S, s⟩ := z
      rw [Int.zero_add]
      refine ⟨_, rfl, by show 1 ≤ sizeLine; decide, fun a ha => ?_⟩
      have s1 := same_laid (o := .tup [V.int i]) ha
      refine ⟨_, rfl, by show 1 ≤ sizeLine; decide, fun b hb => ?_⟩
      have s2 := same_laid (o := .tup [v]) hb
      refine ⟨by show 2 ≤ sizeLine; decide, fun c hc => ?_⟩
      have s3 := same_laid (o := .tup [V.ref a, V.ref b]) hc
      have st := s1.trans (s2.trans s3)
      refine ⟨_, _, rfl, ?_, s.trans st⟩
      show Shows _ _ (plD (dq m (i + 1)))
      rw [dq, plD, plDs, plDs]
      exact .tup upd_same (.cons (.tup (s3 _ _ (s2 _ _ upd_same)) (.cons (.int _) .nil)) (.cons (.tup (s3 _ _ upd_same) (.cons (shows_keep st S) .nil)) .nil))
    · obtain ⟨v, vk, rfl, S, s⟩ := z
      rw [show ((m : Int) - 1).toNat = m - 1 by omega] at S
      exact ⟨_, rfl, k v H2 S s⟩
end
section
variable {X : Cx}
def tS (d : PyData) : TE := fun _ H Q => ∀ v H', Same H H' → Shows H' v d → Q v H'
def tSs (ds : List PyData) : TA := fun _ H Q => ∀ vs H', Same H H' → ShowsAll H' vs ds → Q vs H'
theorem pes_tup {x1 pos} {es : List Expr} {ds : List PyData} (hl : ds.length ≤ 1000) (h : PA X es (tSs ds)) : PE X (.Tuple es x1 pos) (tS (.tuple ds)) :=
  pe_as (pe_tup h) fun σ H Q q vs H1 s1 h1 => ⟨by have := shAll_len h1; have : sizeLine = 16777216 := rfl; omega, fun p hp => q _ _ (s1.trans (same_laid hp)) (.tup upd_same (shAll_keep (same_laid hp) h1))⟩
theorem pes_lst {pos} {es : List Expr} {ds : List PyData} (hl : ds.length ≤ 1000) (h : PA X es (tSs ds)) : PE X (.List es pos) (tS (.list ds)) :=
  pe_as (pe_lst h) fun σ H Q q vs H1 s1 h1 => ⟨by have := shAll_len h1; have : sizeLine = 16777216 := rfl; omega, fun p hp => q _ _ (s1.trans (same_laid hp)) (.lst upd_same (shAll_keep (same_laid hp) h1))⟩
theorem pas_cons {e : Expr} {es : List Expr} {d : PyData} {ds : List PyData} (h : PE X e (tS d)) (hs : PA X es (tSs ds)) (hst : starEach (e :: es) X.env = (false, eval e X.env) :: starEach es X.env) : PA X (e :: es) (tSs (d :: ds)) :=
  pa_as (pa_cons h hs hst) fun σ H Q q v H1 s1 h1 vs H2 s2 h2 => q (v :: vs) H2 (s1.trans s2) (.cons (shows_keep s2 h1) h2)
theorem pes_lit {e : Expr} {d : PyData} (h : LitD e d) : PE X e (tS d) :=
  LitD.rec (motive_1 := fun e d _ => PE X e (tS d)) (motive_2 := fun es ds _ => PA X es (tSs ds))
    (pe_as pe_non fun σ H Q q => q _ H (Same.refl _) .non) (pe_as pe_bl fun σ H Q q => q _ H (Same.refl _) (.bl _)) (pe_as pe_int fun σ H Q q => q _ H (Same.refl _) (.int _)) (pe_as pe_str fun σ H Q q => q _ H (Same.refl _) (.str _))
    (fun _ hl ih => pes_tup hl ih) (fun _ hl ih => pes_lst hl ih) (pa_as pa_nil fun σ H Q q => q [] H (Same.refl _) .nil) (fun hd _ i1 i2 => pas_cons i1 i2 (hd.star _ _)) h
theorem wslit {e : Expr} {d : PyData} (h : LitD e d) : WP (PE X e (tS d)) := .mk (pes_lit h)
end
theorem shAll_at {H : Hp} {xs : List V} {ds : List PyData} {i : Nat} {x : V} (h : ShowsAll H xs ds) (e : xs[i]? = some x) : ∃ d, d ∈ ds ∧ Shows H x d := by
  induction xs generalizing ds i with
  | nil => simp at e
  | cons y ys ih =>
    cases h with
    | cons a b =>
      cases i with
      | zero =>
        simp at e
        subst e
        exact ⟨_, List.mem_cons_self, a⟩
      | succ i =>
        obtain ⟨d, hd, s⟩ := ih b (by simpa using e)
        exact ⟨d, List.mem_cons_of_mem _ hd, s⟩
def smallD (d : PyData) : Bool := Nat.ble d.weight 100000 && Nat.ble d.depth 3 && d.canLay0 && d.intsShort 13 && d.showable
theorem small_fn {d : PyData} (h : smallD d = true) : Fn 1048576 60 d := by
  unfold smallD at h
  simp only [Bool.and_eq_true] at h
  obtain ⟨⟨⟨⟨h1, h2⟩, h3⟩, h4⟩, h5⟩ := h
  exact ⟨Nat.le_trans (Nat.le_of_ble_eq_true h1) (by decide), Nat.le_trans (Nat.le_of_ble_eq_true h2) (by decide), h3, h4, h5⟩
def things : List PyData := [.none, .bool true, .int 0, .tuple [], .list [], .tuple [.tuple [.int 0]], .tuple [.tuple [.int 0], .tuple []], .list [.tuple [.int 0], .tuple []], .tuple [.tuple [.int 0], .list []], .tuple [.tuple [], .tuple []], .tuple [.tuple [.int 0], .tuple [.tuple []]], .tuple [.int 0, .tuple []]]
def AllB (ds : List PyData) : Prop := ∀ d ∈ ds, IB 100 30 d
theorem ab0 : AllB [] := fun d hd => by cases hd
theorem ab {d : PyData} {ds : List PyData} (h : IB 100 30 d) (hs : AllB ds) : AllB (d :: ds) := fun x hx => by
  rcases List.mem_cons.mp hx with rfl | hx
  · exact h
  · exact hs x hx
theorem ibT {ds : List PyData} (hl : Nat.ble ds.length 30 = true) (h : AllB ds) : IB 100 30 (.tuple ds) := .tup _ (Nat.le_of_ble_eq_true hl) h
theorem ibL {ds : List PyData} (hl : Nat.ble ds.length 30 = true) (h : AllB ds) : IB 100 30 (.list ds) := .lst _ (Nat.le_of_ble_eq_true hl) h
theorem ibI {i : Int} (h : Nat.ble i.natAbs 100 = true) : IB 100 30 (.int i) := .int _ (Nat.le_of_ble_eq_true h)
theorem things_ib : AllB things := (ab .non (ab (.bl _) (ab (ibI rfl) (ab (ibT rfl ab0) (ab (ibL rfl ab0) (ab (ibT rfl (ab (ibT rfl (ab (ibI rfl) ab0)) ab0)) (ab (ibT rfl (ab (ibT rfl (ab (ibI rfl) ab0)) (ab (ibT rfl ab0) ab0))) (ab (ibL rfl (ab (ibT rfl (ab (ibI rfl) ab0)) (ab (ibT rfl ab0) ab0))) (ab (ibT rfl (ab (ibT rfl (ab (ibI rfl) ab0)) (ab (ibL rfl ab0) ab0))) (ab (ibT rfl (ab (ibT rfl ab0) (ab (ibT rfl ab0) ab0))) (ab (ibT rfl (ab (ibT rfl (ab (ibI rfl) ab0)) (ab (ibT rfl (ab (ibT rfl ab0) ab0)) ab0))) (ab (ibT rfl (ab (ibI rfl) (ab (ibT rfl ab0) ab0))) ab0))))))))))))
theorem things_fn {d : PyData} (h : d ∈ things) : Fn 1048576 60 d := small_fn (List.all_eq_true.mp (show things.all smallD = true by decide +kernel) d h)
theorem TapeAt.neT {H : Hp} {t b : Addr} {N : Nat} {ys : List V} (h : TapeAt H t N) (hb : H b = some (.tup ys)) : b ≠ t := by
  obtain ⟨p, ns, spot, rest, a, _⟩ := h
  exact ne_of hb a (by intro z; cases z)
theorem hid_tup {H : Hp} {t : Addr} {N : Nat} (T : TapeAt H t N) : ∀ b ys, H b = some (.tup ys) → hid t H b = some (.tup ys) := fun b ys e => hid_of (T.neT e) e
def wtb (b : Nat) : Nat := [1020, 3040, 7080, 15160, 31320].getD b 0
theorem wtb_step : ∀ b < 4, 2 * wtb b + 1000 ≤ wtb (b + 1) ∧ wtb b ≤ 400000 := by decide
theorem dq_b {m i : Nat} (h1 : i ≤ m) (h2 : m ≤ 26) (h3 : i ≤ 25) : PlB (dq (m : Int) i) := by
  obtain ⟨a1, a2, a3, a4⟩ := dq_flat (m : Int) i
  refine ⟨a3, fun x hx => ?_, by omega, by omega⟩
  have := a4 x hx
  omega
theorem last_b {m i : Nat} (h2 : m ≤ 25) (h3 : i ≤ 24) : PlB (.mk [0, 2] [dq (m : Int) i, .mk [1] []]) := by
  obtain ⟨a1, a2, a3, a4⟩ := dq_flat (m : Int) i
  refine ⟨?_, fun x hx => ?_, ?_, ?_⟩
  · rw [good, goods, goods, goods, good, goods]
    exact ⟨by simp, a3, ⟨by simp, trivial⟩, trivial⟩
  · rw [flat, flats, flats, flats, flat, flats] at hx
    simp only [List.append_nil, List.mem_append, List.mem_cons, List.not_mem_nil, or_false] at hx
    rcases hx with (rfl | rfl) | hx | rfl
    · decide
    · decide
    · have := a4 x hx
      omega
    · decide
  · rw [flat, flats, flats, flats, flat, flats]
    simp only [List.append_nil, List.length_append, a1]
    show 2 + (i + 1 + 1) ≤ 30
    omega
  · rw [hgt, hgts, hgts, hgts, hgt, hgts, a2]
    omega
theorem pool_b {r1 n : Int} {os : List Int} {q : Pln} (r0 : 0 ≤ r1) (r3 : r1 < 3) (n12 : n ≤ 12) (O : Ordr n os) (g : good q) (pm : (flat q).Perm (os.map fun o => o * (1 + r1) + (1 + r1) - 1)) (hh : hgt q ≤ os.length) : PlB q ∧ (flat q).Nodup ∧ hgt q ≤ 12 := by
  have hl : os.length ≤ 12 := by rw [O.ln]; omega
  have hr : r1 = 0 ∨ r1 = 1 ∨ r1 = 2 := by omega
  refine ⟨⟨g, fun x hx => ?_, ?_, by omega⟩, ?_, by omega⟩
  · obtain ⟨o, ho, rfl⟩ := List.mem_map.mp (pm.mem_iff.mp hx)
    have := O.rng o ho
    rcases hr with rfl | rfl | rfl <;> omega
  · rw [pm.length_eq, List.length_map]
    omega
  · refine pm.nodup_iff.mpr (List.Pairwise.map _ (fun a b h => ?_) O.nd)
    rcases hr with rfl | rfl | rfl <;> omega
/-! ### the law -/
def spLaw (K : PySem.W.Frag) : Sp := fun vs H Q _ => ∃ (a : Addr) (ns : List Int), vs = [.ref a] ∧ SqL K H a (ns.map V.int) ∧ ns.length ≤ 63 ∧ ∀ H', Q (.bl true) H'
section
variable {P : Program} {w : World} {K : PySem.W.Frag} {mg : Str → Option Value} {base : Heap}
theorem scLaw : FnScope ["_law_script", "_law_tape_here", "_law_thing", "_law_k", "_law_step", "_law_pool", "_law_plan_here", "_law_bends", "_law_many"] ["_law_script"] (defScope sLaw) := ⟨rfl, rfl, rfl, by decide +kernel, rfl, by decide +kernel, by decide +kernel⟩
theorem ok_law {f fTa fD fNu fTo fRs fIp fPw fPp fCh fCo fPo fDe fOr fB fPn fLq fLp fLf fLc fR fLd fPr : Addr} {fd' fdTa fdD fdNu fdTo fdRs fdIp fdPw fdPp fdCh fdCo fdPo fdDe fdOr fdB fdPn fdLq fdLp fdLf fdLc fdR fdLd fdPr : FuncData} {tkW : Tok} (F : Fun K "law" "law" sLaw f fd')
    (FTa : Fun K "_law_tape" "_law_tape" sTape fTa fdTa) (bTa : Binds K fdTa ["_law_script"] []) (mTa : mg "_law_tape" = some (.ref fTa))
    (FD : Fun K "_law_draw" "_law_draw" sDraw fD fdD) (bD : Binds K fdD ["_law_tape_here", "_law_many"] []) (mD : mg "_law_draw" = some (.ref fD))
    (FNu : Fun K "is_number" "is_number" sNum fNu fdNu) (bNu : Binds K fdNu ["thing"] []) (mNu : mg "is_number" = some (.ref fNu))
    (FTo : Fun K "is_tuple_of" "is_tuple_of" sTof fTo fdTo) (bTo : Binds K fdTo ["thing", "count"] []) (mTo : mg "is_tuple_of" = some (.ref fTo))
    (FRs : Fun K "is_rising" "is_rising" sRis fRs fdRs) (bRs : Binds K fdRs ["things"] []) (mRs : mg "is_rising" = some (.ref fRs))
    (FIp : Fun K "is_plan" "is_plan" sIp fIp fdIp) (bIp : Binds K fdIp ["thing"] []) (mIp : mg "is_plan" = some (.ref fIp))
    (FPw : Fun K "is_plan_within" "is_plan_within" sPw fPw fdPw) (bPw : Binds K fdPw ["thing", "most"] []) (mPw : mg "is_plan_within" = some (.ref fPw))
    (FPp : Fun K "are_plan_places" "are_plan_places" sPp fPp fdPp) (bPp : Binds K fdPp ["thing"] []) (mPp : mg "are_plan_places" = some (.ref fPp))
    (FCh : Fun K "chain" "chain" sCh fCh fdCh) (bCh : Binds K fdCh ["plan", "place"] []) (mCh : mg "chain" = some (.ref fCh))
    (FCo : Fun K "chain_or_none" "chain_or_none" sCo fCo fdCo) (bCo : Binds K fdCo ["plan", "place"] []) (mCo : mg "chain_or_none" = some (.ref fCo))
    (FPo : Fun K "plan_order" "plan_order" sPo fPo fdPo) (bPo : Binds K fdPo ["plan"] []) (mPo : mg "plan_order" = some (.ref fPo))
    (FDe : Fun K "deepest" "deepest" sDe fDe fdDe) (bDe : Binds K fdDe ["plan"] []) (mDe : mg "deepest" = some (.ref fDe))
    (FOr : Fun K "_law_order" "_law_order" sOrder fOr fdOr) (bOr : Binds K fdOr ["_law_tape_here", "_law_n"] []) (mOr : mg "_law_order" = some (.ref fOr))
    (FB : Fun K "_law_bent" "_law_bent" sBent fB fdB) (bB : Binds K fdB ["_law_tape_here", "_law_thing"] []) (mB : mg "_law_bent" = some (.ref fB))
    (FPn : Fun K "_law_plan" "_law_plan" sPn fPn fdPn) (bPn : Binds K fdPn ["_law_tape_here", "_law_pool"] []) (mPn : mg "_law_plan" = some (.ref fPn))
    (FLq : Fun K "_law_is_places" "_law_is_places" sLq fLq fdLq) (bLq : Binds K fdLq ["_law_thing"] []) (mLq : mg "_law_is_places" = some (.ref fLq))
    (FLp : Fun K "_law_is_plan" "_law_is_plan" sLp fLp fdLp) (bLp : Binds K fdLp ["_law_thing", "_law_deep_here"] []) (mLp : mg "_law_is_plan" = some (.ref fLp))
    (FLf : Fun K "_law_flat" "_law_flat" sLf fLf fdLf) (bLf : Binds K fdLf ["_law_plan_here"] []) (mLf : mg "_law_flat" = some (.ref fLf))
    (FLc : Fun K "_law_chain" "_law_chain" sLc fLc fdLc) (bLc : Binds K fdLc ["_law_plan_here", "_law_place"] []) (mLc : mg "_law_chain" = some (.ref fLc))
    (FR : Fun K "_law_right" "_law_right" sRight fR fdR) (bR : Binds K fdR ["_law_thing"] []) (mR : mg "_law_right" = some (.ref fR))
    (FLd : Fun K "_law_deep" "_law_deep" sLd fLd fdLd) (bLd : Binds K fdLd ["_law_many"] []) (mLd : mg "_law_deep" = some (.ref fLd))
    (FPr : Fun K "_law_plan_right" "_law_plan_right" sPr fPr fdPr) (bPr : Binds K fdPr ["_law_plan_here"] []) (mPr : mg "_law_plan_right" = some (.ref fPr))
    (mLen : mg "len" = none) (mRange : mg "range" = none) (mTuple : mg "tuple" = none) (mSorted : mg "sorted" = none) (mRepr : mg "repr" = none) (mList : mg "list" = none) (mIsi : mg "isinstance" = none) (mInt : mg "int" = none) (mBool : mg "bool" = none) (mAll : mg "all" = none) (mStr : mg "str" = none) (mSet : mg "set" = none) (mMax : mg "max" = none) (mMin : mg "min" = none) (mMW : mg "MOST_WITHIN" = some (.int 24 tkW)) :
    FnOk P w K mg base CX0 32 f fd' ["_law_script"] (spLaw K) := by
  have GTa : FnOk P w K mg base CX0 31 fTa fdTa ["_law_script"] (spTape K) := (ok_tape FTa).mono (by decide)
  have GD : FnOk P w K mg base CX0 31 fD fdD ["_law_tape_here", "_law_many"] spDraw := (ok_draw FD mLen).mono (by decide)
  have GPp : FnOk P w K mg base CX0 2 fPp fdPp ["thing"] spPp := ok_pp FPp FNu bNu mNu FRs bRs mRs mIsi mInt mBool mTuple mLen mRange mAll
  have GPw : FnOk P w K mg base CX0 27 fPw fdPw ["thing", "most"] (spPw 24) := ok_pw FPw bPw mPw FTo bTo mTo FPp bPp mPp GPp mIsi mTuple mLen mAll 24
  have GIp : FnOk P w K mg base CX0 28 fIp fdIp ["thing"] spIp := ok_ip FIp FPw bPw mPw GPw mMW
  have GLq : FnOk P w K mg base CX0 1 fLq fdLq ["_law_thing"] spPp := ok_lq FLq mIsi mInt mBool mTuple mLen mSorted mSet
  have GLp : FnOk P w K mg base CX0 28 fLp fdLp ["_law_thing", "_law_deep_here"] (spLp 24) := (ok_lp FLp bLp mLp FLq bLq mLq GLq mIsi mTuple mLen 24).mono (by decide)
  have GR : FnOk P w K mg base CX0 31 fR fdR ["_law_thing"] spRight := (ok_right FR FIp bIp mIp GIp FLp bLp mLp GLp mRepr).mono (by decide)
  have GB : FnOk P w K mg base CX0 31 fB fdB ["_law_tape_here", "_law_thing"] (spB 30) := ok_bent FB bB mB FD bD mD mIsi mInt mBool mTuple mList mStr mLen 30
  have GOr : FnOk P w K mg base CX0 31 fOr fdOr ["_law_tape_here", "_law_n"] spOrder := (ok_order FOr FD bD mD mLen mRange mTuple mList).mono (by decide)
  have GPn : FnOk P w K mg base CX0 31 fPn fdPn ["_law_tape_here", "_law_pool"] (spPn 12) := (ok_pn FPn bPn mPn FD bD mD mLen mMin mTuple mSorted 12).mono (by decide)
  have GLf : FnOk P w K mg base CX0 28 fLf fdLf ["_law_plan_here"] (spLf 26) := (ok_lf FLf bLf mLf mList 26).mono (by decide)
  have GPo : FnOk P w K mg base CX0 28 fPo fdPo ["plan"] (spPo 26) := (ok_po FPo bPo mPo mList mTuple 26).mono (by decide)
  have GCh : FnOk P w K mg base CX0 28 fCh fdCh ["plan", "place"] (spCh 26) := ok_ch FCh FCo bCo mCo mTuple mSorted mSet
  have GLc : FnOk P w K mg base CX0 28 fLc fdLc ["_law_plan_here", "_law_place"] (spLc 26) := ok_lc FLc FLf bLf mLf mList mTuple mSorted
  have GDe : FnOk P w K mg base CX0 28 fDe fdDe ["plan"] (spDe 26) := (ok_de FDe bDe mDe mLen mMax 26).mono (by decide)
  have GPr : FnOk P w K mg base CX0 31 fPr fdPr ["_law_plan_here"] (spPr 26) := (ok_pr (h := 26) FPr FLf bLf mLf GLf FPo bPo mPo GPo FCh bCh mCh GCh FLc bLc mLc GLc FDe bDe mDe GDe mRepr mTuple mIsi mList mMax mLen).mono (by decide)
  have GLd : FnOk P w K mg base CX0 31 fLd fdLd ["_law_many"] spLd := (ok_ld FLd mRange).mono (by decide)
  refine okW F scLaw (fun vs H Q E h => ?_) (fun cdv A outer s H vs Q E hr h => ?_)
  · obtain ⟨a, ns, rfl, _⟩ := h
    rfl
  · obtain ⟨a, ns, rfl, hS, hlen, k⟩ := h
    refine ⟨_, wcons (.mk (ps_set (i := 1) scLaw.nd rfl (Or.inl rfl) (pe_call GTa hr rfl mTa FTa.kp bTa .nil pass0 (pa_cons (pv 0) pa_nil))))
      (wcons (wfor PassesOwn.never rfl (wilist (wslit (.lst (.cons .non (.cons .bl (.cons .int (.cons (.tup .nil (Nat.zero_le _)) (.cons (.lst .nil (Nat.zero_le _)) (.cons (.tup (.cons (.tup (.cons .int .nil) (Nat.le_of_ble_eq_true rfl)) .nil) (Nat.le_of_ble_eq_true rfl)) (.cons (.tup (.cons (.tup (.cons .int .nil) (Nat.le_of_ble_eq_true rfl)) (.cons (.tup .nil (Nat.zero_le _)) .nil)) (Nat.le_of_ble_eq_true rfl)) (.cons (.lst (.cons (.tup (.cons .int .nil) (Nat.le_of_ble_eq_true rfl)) (.cons (.tup .nil (Nat.zero_le _)) .nil)) (Nat.le_of_ble_eq_true rfl)) (.cons (.tup (.cons (.tup (.cons .int .nil) (Nat.le_of_ble_eq_true rfl)) (.cons (.lst .nil (Nat.zero_le _)) .nil)) (Nat.le_of_ble_eq_true rfl)) (.cons (.tup (.cons (.tup .nil (Nat.zero_le _)) (.cons (.tup .nil (Nat.zero_le _)) .nil)) (Nat.le_of_ble_eq_true rfl)) (.cons (.tup (.cons (.tup (.cons .int .nil) (Nat.le_of_ble_eq_true rfl)) (.cons (.tup (.cons (.tup .nil (Nat.zero_le _)) .nil) (Nat.le_of_ble_eq_true rfl)) .nil)) (Nat.le_of_ble_eq_true rfl)) (.cons (.tup (.cons .int (.cons (.tup .nil (Nat.zero_le _)) .nil)) (Nat.le_of_ble_eq_true rfl)) .nil)))))))))))) (Nat.le_of_ble_eq_true rfl)))) (pg_name (i := 2) scLaw.nd rfl (Or.inl rfl))
        (.mk (pss_one (ps_if (pt_not (pt_val (pe_call GR hr rfl mR FR.kp bR .nil pass0 (pa_cons (pv 2) pa_nil)))) (pss_one (ps_ret pe_bl)) pss_nil))))
      (.mk (pss_cons (ps_for PassesOwn.never rfl (pi_range1 rfl mRange (pa_cons pe_int pa_nil)) (pg_name (i := 3) scLaw.nd rfl (Or.inl rfl))
        (pss_cons (ps_set (i := 4) scLaw.nd rfl (Or.inr rfl) (pe_op op_add pe_int (pe_call GD hr rfl mD FD.kp bD .nil pass0 (pa_cons (pv 1) (pa_cons pe_int pa_nil)))))
        (pss_cons (ps_setC (i := 5) (own := ["_law_one"]) (cn := ["_law_step"]) (ci := [4]) scLaw.nd rfl (Or.inl rfl) rfl (csc rfl rfl) ⟨rfl, rfl, rfl, trivial⟩ rfl (pi_tup (pe_call GOr hr rfl mOr FOr.kp bOr .nil pass0 (pa_cons (pv 1) (pa_cons (pe_op op_add pe_int (pe_call GD hr rfl mD FD.kp bD .nil pass0 (pa_cons (pv 1) (pa_cons pe_int pa_nil)))) pa_nil)))) (fun _ _ _ _ => pg_name (i := 0) (nd_of rfl) rfl (Or.inl rfl)) (fun _ _ _ _ => pts_nil)
          (fun _ _ _ _ => pe_op op_sub (pe_op op_add (pe_op op_mul (pv 0) (pv 1)) (pv 1)) pe_int))
        (pss_cons (ps_set (i := 6) scLaw.nd rfl (Or.inl rfl) (pe_call GPn hr rfl mPn FPn.kp bPn .nil pass0 (pa_cons (pv 1) (pa_cons (pv 5) pa_nil))))
        (pss_cons (ps_if (pt_not (pt_val (pe_call GPr hr rfl mPr FPr.kp bPr .nil pass0 (pa_cons (pv 6) pa_nil)))) (pss_one (ps_ret pe_bl)) pss_nil)
        (pss_cons (ps_set (i := 2) scLaw.nd rfl (Or.inl rfl) (pv 6))
        (pss_one (ps_for PassesOwn.never rfl (pi_range1 rfl mRange (pa_cons pe_int pa_nil)) (pg_name (i := 7) scLaw.nd rfl (Or.inl rfl))
          (pss_cons (ps_if (pt_not (pt_val (pe_call GR hr rfl mR FR.kp bR .nil pass0 (pa_cons (pv 2) pa_nil)))) (pss_one (ps_ret pe_bl)) pss_nil)
          (pss_one (ps_set (i := 2) scLaw.nd rfl (Or.inl rfl) (pe_call GB hr rfl mB FB.kp bB .nil pass0 (pa_cons (pv 1) (pa_cons (pv 2) pa_nil))))))))))))))
      (pss_cons (ps_set (i := 8) scLaw.nd rfl (Or.inl rfl) (pe_op op_add pe_int (pe_call GD hr rfl mD FD.kp bD .nil pass0 (pa_cons (pv 1) (pa_cons pe_int pa_nil)))))
      (pss_cons (ps_if (PW.pt (pw_and (pt_cmpR op_lt (pv 8) pe_int (nomark _)) (pw_and1 (pt_not (pt_val (pe_call GPr hr rfl mPr FPr.kp bPr .nil pass0 (pa_cons (pe_call GLd hr rfl mLd FLd.kp bLd .nil pass0 (pa_cons (pv 8) pa_nil)) pa_nil))))))) (pss_one (ps_ret pe_bl)) pss_nil)
      (pss_one (ps_ret (pe_and (pe_call GR hr rfl mR FR.kp bR .nil pass0 (pa_cons (pe_call GLd hr rfl mLd FLd.kp bLd .nil pass0 (pa_cons (pv 8) pa_nil)) pa_nil))
        (pe_one (pe_call GR hr rfl mR FR.kp bR .nil pass0 (pa_cons (pe_tup (pa_cons (pe_tup (pa_cons pe_int (pa_cons pe_int pa_nil))) (pa_cons (pe_tup (pa_cons (pe_call GLd hr rfl mLd FLd.kp bLd .nil pass0 (pa_cons (pe_op op_sub (pv 8) pe_int) pa_nil)) (pa_cons (pe_tup (pa_cons (pe_tup (pa_cons pe_int pa_nil)) (pa_cons (pe_tup pa_nil) pa_nil))) pa_nil))) pa_nil))) pa_nil))))))))))), ?_⟩
    refine ⟨_, rfl, a, ns, rfl, hS, hlen, fun t H1 ht T1 s1 => ?_⟩
    refine fun v2 H2 s2 S2 => ?_
    cases S2 with
    | @lst lp xs ds1 e2 al2 =>
      refine ⟨lp, rfl, ⟨_, SqL.of e2⟩, for_list (a := lp) (xs := xs) (fun i σ H5 => ∃ v2 : Option V, σ = [some (.ref a), some (.ref t), v2, none, none, none, none, none, none] ∧ Same H2 H5) ⟨none, rfl, Same.refl _⟩ (fun i σ H5 hi z => ?_) (fun i x σ H5 hx z => ?_) (fun σ H5 z => ?_)⟩
      · obtain ⟨_, _, s5⟩ := z
        exact SqL.of (s5 _ _ e2)
      · obtain ⟨v2, rfl, s5⟩ := z
        obtain ⟨d, hd, Sx⟩ := shAll_at al2 hx
        refine ⟨_, rfl, x, d, 100, 30, rfl, shows_keep s5 Sx, things_ib d hd, by decide, things_fn hd, fun H6 s6 => ?_⟩
        exact ⟨_, rfl, iteF ⟨_, rfl, s5.trans s6⟩⟩
      · obtain ⟨v2, rfl, s5⟩ := z
        have T5 := (T1.keep s2).keep s5
        refine ⟨4, rfl, by decide, by decide, for_range (lo := 0) (n := 4) (fun q σ H6 => ∃ v2 v3 v4 v5 v6 v7 : Option V, σ = [some (.ref a), some (.ref t), v2, v3, v4, v5, v6, v7, none] ∧ TapeAt H6 t (1000 * q)) ⟨_, _, _, _, _, _, rfl, T5⟩ (fun q σ H6 hq z => ?_) (fun σ H6 z => ?_)⟩
        · obtain ⟨v2, v3, v4, v5, v6, v7, rfl, T6⟩ := z
          rw [Int.zero_add]
          refine ⟨_, rfl, t, _, 3, rfl, T6, by omega, by decide, by decide, fun r1 Ha r10 r11 Ta _ => ?_⟩
          refine ⟨_, _, rfl, rfl, ?_⟩
          refine ⟨_, rfl, _, rfl, t, _, 12, rfl, Ta, by omega, by decide, by decide, fun r2 Hb r20 r21 Tb _ => ?_⟩
          refine ⟨_, _, rfl, rfl, t, _, 1 + r2, rfl, Tb, by omega, by omega, by omega, fun l os Hc hl O Tc _ => ?_⟩
          refine ⟨l, rfl, ⟨_, SqT.of hl⟩, [.int (1 + r1)], rfl, fun D hD => ?_⟩
          refine comp_tup (a := l) (xs := os.map V.int) (fun i ys H5 => ys = ((os.take i).map fun o => o * (1 + r1) + (1 + r1) - 1).map V.int ∧ H5 = upd Hc D (.lst ys)) ⟨rfl, rfl⟩ (fun i ys H5 z => ?_) (fun i ys H5 z => ?_) (fun i x ys H5 hx z => ?_) (fun ys H5 z => ?_)
          · obtain ⟨_, rfl⟩ := z
            exact SqT.of (same_laid hD _ _ hl)
          · obtain ⟨rfl, _⟩ := z
            have := O.ln
            rw [List.length_map, List.length_map, List.length_take]
            exact small_line (by omega)
          · obtain ⟨rfl, rfl⟩ := z
            rw [List.getElem?_map, Option.map_eq_some_iff] at hx
            obtain ⟨o, ho, rfl⟩ := hx
            refine ⟨⟨rfl, rfl⟩, ?_⟩
            refine tyes ?_
            refine ⟨_, rfl, _, rfl, _, _, rfl, rfl, .inr ⟨by omega, by omega⟩, _, rfl, _, _, rfl, rfl, _, _, rfl, rfl, upd_same, ?_, upd_upd⟩
            rw [List.take_add_one, ho, List.map_append, List.map_append]; rfl
          · obtain ⟨rfl, rfl⟩ := z
            rw [List.length_map, List.take_of_length_le (Nat.le_refl _)]
            have hol := O.ln
            have Td := Tc.laid (o := .lst ((os.map fun o => o * (1 + r1) + (1 + r1) - 1).map V.int)) hD
            have nDt := Tc.ne hD
            obtain ⟨tp, TdP⟩ := id Td
            refine ⟨_, rfl, _, rfl, t, tp, D, _, os.map fun o => o * (1 + r1) + (1 + r1) - 1, rfl, TdP, by rw [List.length_map]; omega, nDt, upd_same, by rw [List.length_map]; omega, by rw [List.length_map]; omega, by rw [List.length_map]; omega, fun v pq He S gq pm hh TeP _ => ?_⟩
            rw [List.length_map] at hh TeP
            have Te : TapeAt He t _ := ⟨tp, TeP⟩
            obtain ⟨B, nd, h12⟩ := pool_b r10 r11 (n := 1 + r2) (by omega) O gq pm hh
            refine ⟨_, rfl, v, pq, rfl, S, B.ok nd, fun Hf sf => ?_⟩
            refine ⟨_, rfl, iteF ?_⟩
            refine ⟨_, rfl, ?_⟩
            have Tf := Te.keep sf
            have Sf : Sh t Hf v (plD pq) := pl_keep (hid_tup Tf) pq (shows_keep sf S)
            obtain ⟨ib0, _, _, fn0⟩ := pl_data pq B.gd B.sm B.ln
            have fn1 : Fn 1020 24 (plD pq) := fn0.mono (by have := B.ln; omega) (by omega)
            refine ⟨4, rfl, by decide, by decide, for_range (lo := 0) (n := 4) (fun b σ H7 => ∃ (v2 : V) (d : PyData) (v7 : Option V), σ = [some (.ref a), some (.ref t), some v2, some (.int q), some (.int (1 + r1)), some (.ref D), some v, v7, none] ∧ Sh t H7 v2 d ∧ IB (100 * (b + 1)) (30 + b) d ∧ Fn (wtb b) (24 + b) d ∧ TapeAt H7 t (1000 * q + 100 + 90 * b)) ⟨_, _, _, rfl, Sf, ib0, fn1, Tf.mono (by omega)⟩ (fun b σ H7 hb z => ?_) (fun σ H7 z => ?_)⟩
            · obtain ⟨v2, d, v7, rfl, S7, ib, fn, T7⟩ := z
              obtain ⟨w1, w2⟩ := wtb_step b hb
              refine ⟨_, rfl, v2, d, _, _, rfl, S7.shows, ib, by omega, fn.mono (by omega) (by omega), fun H8 s8 => ?_⟩
              refine ⟨_, rfl, iteF ?_⟩
              refine ⟨_, rfl, _, rfl, t, _, v2, d, _, _, _, _, rfl, T7.keep s8, (show 1000 * q + 100 + 90 * b + 90 < 900000 by omega), S7.same s8, ib, fn, (show 24 + b ≤ 29 by omega), by omega, w2, fun v' d' H9 S9 ib9 fn9 T9 _ => ?_⟩
              exact ⟨v', d', _, rfl, S9, ib9.mono (by omega) (by omega), fn9.mono w1 (by omega), T9⟩
            · obtain ⟨v2, d, v7, rfl, _, _, _, T7⟩ := z
              exact ⟨_, _, _, _, _, _, rfl, T7.mono (by omega)⟩
        · obtain ⟨v2, v3, v4, v5, v6, v7, rfl, T6⟩ := z
          refine ⟨_, rfl, t, _, 4, rfl, T6, by omega, by decide, by decide, fun r1 Ha r10 r11 Ta _ => ?_⟩
          refine ⟨_, _, rfl, rfl, ?_⟩
          obtain ⟨m, hm⟩ : ∃ m : Nat, 23 + r1 = (m : Int) := ⟨(23 + r1).toNat, by omega⟩
          have hm23 : 23 ≤ m := by omega
          have hm26 : m ≤ 26 := by omega
          have Bm : PlB (dq (m : Int) (m - 1)) := dq_b (by omega) hm26 (by omega)
          show gName 8 (V.int (23 + r1)) _ _ _
          rw [hm]
          refine ⟨_, rfl, _, _, rfl, rfl, _, rfl, ?_⟩
          by_cases c : (m : Int) < 25
          · refine ifT (decide_eq_true c) ?_
            refine ⟨_, rfl, m, rfl, by omega, by omega, fun v0 H0 S0 s0 => ?_⟩
            refine ⟨v0, _, rfl, S0, Bm.ok (dq_nd m (m - 1) (by omega)), fun Hy sy => ?_⟩
            refine ⟨_, rfl, iteF ?_⟩
            refine ⟨_, rfl, m, rfl, by omega, by omega, fun v1 H1 S1 s1 => ?_⟩
            refine ⟨v1, _, 100, 30, rfl, S1, Bm.ib, by decide, Bm.fn.mono (by decide) (by decide), fun H2 s2 => ?_⟩
            refine ⟨_, rfl, iteT ?_⟩
            refine ⟨by show 2 ≤ sizeLine; decide, fun a1 ha1 => ?_⟩
            have t1 := same_laid (o := .tup [V.int 0, V.int 2]) ha1
            refine ⟨_, rfl, _, _, rfl, rfl, m - 1, by show [V.int ((m : Int) - 1)] = [V.int ((m - 1 : Nat) : Int)]; rw [show ((m - 1 : Nat) : Int) = (m : Int) - 1 by omega], by omega, by omega, fun v3 H3 S3 s3 => ?_⟩
            have ha13 := s3 _ _ (upd_same (H := H2) (a := a1) (o := .tup [V.int 0, V.int 2]))
            refine ⟨by show 1 ≤ sizeLine; decide, fun b1 hb1 => ?_⟩
            have u1 := same_laid (o := .tup [V.int 1]) hb1
            refine ⟨by show 0 ≤ sizeLine; decide, fun b2 hb2 => ?_⟩
            have u2 := same_laid (o := .tup []) hb2
            refine ⟨by show 2 ≤ sizeLine; decide, fun b3 hb3 => ?_⟩
            have u3 := same_laid (o := .tup [V.ref b1, V.ref b2]) hb3
            refine ⟨by show 2 ≤ sizeLine; decide, fun b4 hb4 => ?_⟩
            have u4 := same_laid (o := .tup [v3, V.ref b3]) hb4
            refine ⟨by show 2 ≤ sizeLine; decide, fun b5 hb5 => ?_⟩
            have u5 := same_laid (o := .tup [V.ref a1, V.ref b4]) hb5
            have ut := u1.trans (u2.trans (u3.trans (u4.trans u5)))
            have B2 : PlB (.mk [0, 2] [dq ((m - 1 : Nat) : Int) (m - 1 - 1), .mk [1] []]) := last_b (by omega) (by omega)
            refine ⟨_, plD (.mk [0, 2] [dq ((m - 1 : Nat) : Int) (m - 1 - 1), .mk [1] []]), 100, 30, rfl, ?_, B2.ib, by decide, B2.fn.mono (by decide) (by decide), fun H9 _ => k _⟩
            rw [plD, plDs, plDs, plDs, plD, plDs]
            exact .tup upd_same (.cons (.tup (ut _ _ ha13) (.cons (.int _) (.cons (.int _) .nil))) (.cons (.tup (u5 _ _ upd_same) (.cons (shows_keep ut S3) (.cons (.tup (u5 _ _ (u4 _ _ upd_same)) (.cons (.tup (u5 _ _ (u4 _ _ (u3 _ _ (u2 _ _ upd_same)))) (.cons (.int _) .nil)) (.cons (.tup (u5 _ _ (u4 _ _ (u3 _ _ upd_same))) .nil) .nil))) .nil))) .nil))
          · refine ifF (decide_eq_false c) (iteF ?_)
            refine ⟨_, rfl, m, rfl, by omega, by omega, fun v1 H1 S1 s1 => ?_⟩
            refine ⟨v1, _, 100, 30, rfl, S1, Bm.ib, by decide, Bm.fn.mono (by decide) (by decide), fun H2 s2 => ?_⟩
            refine ⟨_, rfl, iteT ?_⟩
            refine ⟨by show 2 ≤ sizeLine; decide, fun a1 ha1 => ?_⟩
            have t1 := same_laid (o := .tup [V.int 0, V.int 2]) ha1
            refine ⟨_, rfl, _, _, rfl, rfl, m - 1, by show [V.int ((m : Int) - 1)] = [V.int ((m - 1 : Nat) : Int)]; rw [show ((m - 1 : Nat) : Int) = (m : Int) - 1 by omega], by omega, by omega, fun v3 H3 S3 s3 => ?_⟩
            have ha13 := s3 _ _ (upd_same (H := H2) (a := a1) (o := .tup [V.int 0, V.int 2]))
            refine ⟨by show 1 ≤ sizeLine; decide, fun b1 hb1 => ?_⟩
            have u1 := same_laid (o := .tup [V.int 1]) hb1
            refine ⟨by show 0 ≤ sizeLine; decide, fun b2 hb2 => ?_⟩
            have u2 := same_laid (o := .tup []) hb2
            refine ⟨by show 2 ≤ sizeLine; decide, fun b3 hb3 => ?_⟩
            have u3 := same_laid (o := .tup [V.ref b1, V.ref b2]) hb3
            refine ⟨by show 2 ≤ sizeLine; decide, fun b4 hb4 => ?_⟩
            have u4 := same_laid (o := .tup [v3, V.ref b3]) hb4
            refine ⟨by show 2 ≤ sizeLine; decide, fun b5 hb5 => ?_⟩
            have u5 := same_laid (o := .tup [V.ref a1, V.ref b4]) hb5
            have ut := u1.trans (u2.trans (u3.trans (u4.trans u5)))
            have B2 : PlB (.mk [0, 2] [dq ((m - 1 : Nat) : Int) (m - 1 - 1), .mk [1] []]) := last_b (by omega) (by omega)
            refine ⟨_, plD (.mk [0, 2] [dq ((m - 1 : Nat) : Int) (m - 1 - 1), .mk [1] []]), 100, 30, rfl, ?_, B2.ib, by decide, B2.fn.mono (by decide) (by decide), fun H9 _ => k _⟩
            rw [plD, plDs, plDs, plDs, plD, plDs]
            exact .tup upd_same (.cons (.tup (ut _ _ ha13) (.cons (.int _) (.cons (.int _) .nil))) (.cons (.tup (u5 _ _ upd_same) (.cons (shows_keep ut S3) (.cons (.tup (u5 _ _ (u4 _ _ upd_same)) (.cons (.tup (u5 _ _ (u4 _ _ (u3 _ _ (u2 _ _ upd_same)))) (.cons (.int _) .nil)) (.cons (.tup (u5 _ _ (u4 _ _ (u3 _ _ upd_same))) .nil) .nil))) .nil))) .nil))
end
/-! ### what the top has written, and the head -/
theorem all_mk {l : PySem.W.OpenLaw} {w : World} {K : PySem.W.Frag} {h : Heap} {mg : Str → Option Value} {fa fTa fD fNu fTo fRs fIp fPw fPp fCh fCo fPo fDe fOr fB fPn fLq fLp fLf fLc fR fLd fPr fZ : Addr} (X : K.In h) (G : h.Ns mainGlobals mg) (hfa : mg "law" = some (.ref fa))
    {odTa anTa odD anD odNu anNu odTo anTo odRs anRs odIp anIp odPw anPw odPp anPp odCh anCh odCo anCo odPo anPo odDe anDe odOr anOr odB anB odPn anPn odLq anLq odLp anLp odLf anLf odLc anLc odR anR odLd anLd odPr anPr odZ anZ : Option Addr} {slTa slD slNu slTo slRs slIp slPw slPp slCh slCo slPo slDe slOr slB slPn slLq slLp slLf slLc slR slLd slPr slZ : Array (Option Value)} {ocTa kVTa dcTa pmTa cdTa ctTa ocD kVD dcD pmD cdD ctD ocNu kVNu dcNu pmNu cdNu ctNu ocTo kVTo dcTo pmTo cdTo ctTo ocRs kVRs dcRs pmRs cdRs ctRs ocIp kVIp dcIp pmIp cdIp ctIp ocPw kVPw dcPw pmPw cdPw ctPw ocPp kVPp dcPp pmPp cdPp ctPp ocCh kVCh dcCh pmCh cdCh ctCh ocCo kVCo dcCo pmCo cdCo ctCo ocPo kVPo dcPo pmPo cdPo ctPo ocDe kVDe dcDe pmDe cdDe ctDe ocOr kVOr dcOr pmOr cdOr ctOr ocB kVB dcB pmB cdB ctB ocPn kVPn dcPn pmPn cdPn ctPn ocLq kVLq dcLq pmLq cdLq ctLq ocLp kVLp dcLp pmLp cdLp ctLp ocLf kVLf dcLf pmLf cdLf ctLf ocLc kVLc dcLc pmLc cdLc ctLc ocR kVR dcR pmR cdR ctR ocLd kVLd dcLd pmLd cdLd ctLd ocPr kVPr dcPr pmPr cdPr ctPr ocZ kVZ dcZ pmZ cdZ ctZ : Value} {tkW : Tok}
    (aTa : PySem.W.nsIn K mainGlobals "_law_tape" = some (some (.ref fTa))) (lTa : K.lookup fTa = some ⟨ocTa, odTa, .func (PySem.W.fnOf "_law_tape" "_law_tape" (defArgs sTape) (defBody sTape) (defScope sTape) .none kVTa dcTa pmTa anTa cdTa ctTa), slTa⟩) (cTa : PySem.W.codeIn K cdTa "_law_tape" = true) (kTa : PySem.W.keepIn K (.ref fTa) = true)
    (aD : PySem.W.nsIn K mainGlobals "_law_draw" = some (some (.ref fD))) (lD : K.lookup fD = some ⟨ocD, odD, .func (PySem.W.fnOf "_law_draw" "_law_draw" (defArgs sDraw) (defBody sDraw) (defScope sDraw) .none kVD dcD pmD anD cdD ctD), slD⟩) (cD : PySem.W.codeIn K cdD "_law_draw" = true) (kD : PySem.W.keepIn K (.ref fD) = true)
    (aNu : PySem.W.nsIn K mainGlobals "is_number" = some (some (.ref fNu))) (lNu : K.lookup fNu = some ⟨ocNu, odNu, .func (PySem.W.fnOf "is_number" "is_number" (defArgs sNum) (defBody sNum) (defScope sNum) .none kVNu dcNu pmNu anNu cdNu ctNu), slNu⟩) (cNu : PySem.W.codeIn K cdNu "is_number" = true) (kNu : PySem.W.keepIn K (.ref fNu) = true)
    (aTo : PySem.W.nsIn K mainGlobals "is_tuple_of" = some (some (.ref fTo))) (lTo : K.lookup fTo = some ⟨ocTo, odTo, .func (PySem.W.fnOf "is_tuple_of" "is_tuple_of" (defArgs sTof) (defBody sTof) (defScope sTof) .none kVTo dcTo pmTo anTo cdTo ctTo), slTo⟩) (cTo : PySem.W.codeIn K cdTo "is_tuple_of" = true) (kTo : PySem.W.keepIn K (.ref fTo) = true)
    (aRs : PySem.W.nsIn K mainGlobals "is_rising" = some (some (.ref fRs))) (lRs : K.lookup fRs = some ⟨ocRs, odRs, .func (PySem.W.fnOf "is_rising" "is_rising" (defArgs sRis) (defBody sRis) (defScope sRis) .none kVRs dcRs pmRs anRs cdRs ctRs), slRs⟩) (cRs : PySem.W.codeIn K cdRs "is_rising" = true) (kRs : PySem.W.keepIn K (.ref fRs) = true)
    (aIp : PySem.W.nsIn K mainGlobals "is_plan" = some (some (.ref fIp))) (lIp : K.lookup fIp = some ⟨ocIp, odIp, .func (PySem.W.fnOf "is_plan" "is_plan" (defArgs sIp) (defBody sIp) (defScope sIp) .none kVIp dcIp pmIp anIp cdIp ctIp), slIp⟩) (cIp : PySem.W.codeIn K cdIp "is_plan" = true) (kIp : PySem.W.keepIn K (.ref fIp) = true)
    (aPw : PySem.W.nsIn K mainGlobals "is_plan_within" = some (some (.ref fPw))) (lPw : K.lookup fPw = some ⟨ocPw, odPw, .func (PySem.W.fnOf "is_plan_within" "is_plan_within" (defArgs sPw) (defBody sPw) (defScope sPw) .none kVPw dcPw pmPw anPw cdPw ctPw), slPw⟩) (cPw : PySem.W.codeIn K cdPw "is_plan_within" = true) (kPw : PySem.W.keepIn K (.ref fPw) = true)
    (aPp : PySem.W.nsIn K mainGlobals "are_plan_places" = some (some (.ref fPp))) (lPp : K.lookup fPp = some ⟨ocPp, odPp, .func (PySem.W.fnOf "are_plan_places" "are_plan_places" (defArgs sPp) (defBody sPp) (defScope sPp) .none kVPp dcPp pmPp anPp cdPp ctPp), slPp⟩) (cPp : PySem.W.codeIn K cdPp "are_plan_places" = true) (kPp : PySem.W.keepIn K (.ref fPp) = true)
    (aCh : PySem.W.nsIn K mainGlobals "chain" = some (some (.ref fCh))) (lCh : K.lookup fCh = some ⟨ocCh, odCh, .func (PySem.W.fnOf "chain" "chain" (defArgs sCh) (defBody sCh) (defScope sCh) .none kVCh dcCh pmCh anCh cdCh ctCh), slCh⟩) (cCh : PySem.W.codeIn K cdCh "chain" = true) (kCh : PySem.W.keepIn K (.ref fCh) = true)
    (aCo : PySem.W.nsIn K mainGlobals "chain_or_none" = some (some (.ref fCo))) (lCo : K.lookup fCo = some ⟨ocCo, odCo, .func (PySem.W.fnOf "chain_or_none" "chain_or_none" (defArgs sCo) (defBody sCo) (defScope sCo) .none kVCo dcCo pmCo anCo cdCo ctCo), slCo⟩) (cCo : PySem.W.codeIn K cdCo "chain_or_none" = true) (kCo : PySem.W.keepIn K (.ref fCo) = true)
    (aPo : PySem.W.nsIn K mainGlobals "plan_order" = some (some (.ref fPo))) (lPo : K.lookup fPo = some ⟨ocPo, odPo, .func (PySem.W.fnOf "plan_order" "plan_order" (defArgs sPo) (defBody sPo) (defScope sPo) .none kVPo dcPo pmPo anPo cdPo ctPo), slPo⟩) (cPo : PySem.W.codeIn K cdPo "plan_order" = true) (kPo : PySem.W.keepIn K (.ref fPo) = true)
    (aDe : PySem.W.nsIn K mainGlobals "deepest" = some (some (.ref fDe))) (lDe : K.lookup fDe = some ⟨ocDe, odDe, .func (PySem.W.fnOf "deepest" "deepest" (defArgs sDe) (defBody sDe) (defScope sDe) .none kVDe dcDe pmDe anDe cdDe ctDe), slDe⟩) (cDe : PySem.W.codeIn K cdDe "deepest" = true) (kDe : PySem.W.keepIn K (.ref fDe) = true)
    (aOr : PySem.W.nsIn K mainGlobals "_law_order" = some (some (.ref fOr))) (lOr : K.lookup fOr = some ⟨ocOr, odOr, .func (PySem.W.fnOf "_law_order" "_law_order" (defArgs sOrder) (defBody sOrder) (defScope sOrder) .none kVOr dcOr pmOr anOr cdOr ctOr), slOr⟩) (cOr : PySem.W.codeIn K cdOr "_law_order" = true) (kOr : PySem.W.keepIn K (.ref fOr) = true)
    (aB : PySem.W.nsIn K mainGlobals "_law_bent" = some (some (.ref fB))) (lB : K.lookup fB = some ⟨ocB, odB, .func (PySem.W.fnOf "_law_bent" "_law_bent" (defArgs sBent) (defBody sBent) (defScope sBent) .none kVB dcB pmB anB cdB ctB), slB⟩) (cB : PySem.W.codeIn K cdB "_law_bent" = true) (kB : PySem.W.keepIn K (.ref fB) = true)
    (aPn : PySem.W.nsIn K mainGlobals "_law_plan" = some (some (.ref fPn))) (lPn : K.lookup fPn = some ⟨ocPn, odPn, .func (PySem.W.fnOf "_law_plan" "_law_plan" (defArgs sPn) (defBody sPn) (defScope sPn) .none kVPn dcPn pmPn anPn cdPn ctPn), slPn⟩) (cPn : PySem.W.codeIn K cdPn "_law_plan" = true) (kPn : PySem.W.keepIn K (.ref fPn) = true)
    (aLq : PySem.W.nsIn K mainGlobals "_law_is_places" = some (some (.ref fLq))) (lLq : K.lookup fLq = some ⟨ocLq, odLq, .func (PySem.W.fnOf "_law_is_places" "_law_is_places" (defArgs sLq) (defBody sLq) (defScope sLq) .none kVLq dcLq pmLq anLq cdLq ctLq), slLq⟩) (cLq : PySem.W.codeIn K cdLq "_law_is_places" = true) (kLq : PySem.W.keepIn K (.ref fLq) = true)
    (aLp : PySem.W.nsIn K mainGlobals "_law_is_plan" = some (some (.ref fLp))) (lLp : K.lookup fLp = some ⟨ocLp, odLp, .func (PySem.W.fnOf "_law_is_plan" "_law_is_plan" (defArgs sLp) (defBody sLp) (defScope sLp) .none kVLp dcLp pmLp anLp cdLp ctLp), slLp⟩) (cLp : PySem.W.codeIn K cdLp "_law_is_plan" = true) (kLp : PySem.W.keepIn K (.ref fLp) = true)
    (aLf : PySem.W.nsIn K mainGlobals "_law_flat" = some (some (.ref fLf))) (lLf : K.lookup fLf = some ⟨ocLf, odLf, .func (PySem.W.fnOf "_law_flat" "_law_flat" (defArgs sLf) (defBody sLf) (defScope sLf) .none kVLf dcLf pmLf anLf cdLf ctLf), slLf⟩) (cLf : PySem.W.codeIn K cdLf "_law_flat" = true) (kLf : PySem.W.keepIn K (.ref fLf) = true)
    (aLc : PySem.W.nsIn K mainGlobals "_law_chain" = some (some (.ref fLc))) (lLc : K.lookup fLc = some ⟨ocLc, odLc, .func (PySem.W.fnOf "_law_chain" "_law_chain" (defArgs sLc) (defBody sLc) (defScope sLc) .none kVLc dcLc pmLc anLc cdLc ctLc), slLc⟩) (cLc : PySem.W.codeIn K cdLc "_law_chain" = true) (kLc : PySem.W.keepIn K (.ref fLc) = true)
    (aR : PySem.W.nsIn K mainGlobals "_law_right" = some (some (.ref fR))) (lR : K.lookup fR = some ⟨ocR, odR, .func (PySem.W.fnOf "_law_right" "_law_right" (defArgs sRight) (defBody sRight) (defScope sRight) .none kVR dcR pmR anR cdR ctR), slR⟩) (cR : PySem.W.codeIn K cdR "_law_right" = true) (kR : PySem.W.keepIn K (.ref fR) = true)
    (aLd : PySem.W.nsIn K mainGlobals "_law_deep" = some (some (.ref fLd))) (lLd : K.lookup fLd = some ⟨ocLd, odLd, .func (PySem.W.fnOf "_law_deep" "_law_deep" (defArgs sLd) (defBody sLd) (defScope sLd) .none kVLd dcLd pmLd anLd cdLd ctLd), slLd⟩) (cLd : PySem.W.codeIn K cdLd "_law_deep" = true) (kLd : PySem.W.keepIn K (.ref fLd) = true)
    (aPr : PySem.W.nsIn K mainGlobals "_law_plan_right" = some (some (.ref fPr))) (lPr : K.lookup fPr = some ⟨ocPr, odPr, .func (PySem.W.fnOf "_law_plan_right" "_law_plan_right" (defArgs sPr) (defBody sPr) (defScope sPr) .none kVPr dcPr pmPr anPr cdPr ctPr), slPr⟩) (cPr : PySem.W.codeIn K cdPr "_law_plan_right" = true) (kPr : PySem.W.keepIn K (.ref fPr) = true)
    (aZ : PySem.W.nsIn K mainGlobals "law" = some (some (.ref fZ))) (lZ : K.lookup fZ = some ⟨ocZ, odZ, .func (PySem.W.fnOf "law" "law" (defArgs sLaw) (defBody sLaw) (defScope sLaw) .none kVZ dcZ pmZ anZ cdZ ctZ), slZ⟩) (cZ : PySem.W.codeIn K cdZ "law" = true) (kZ : PySem.W.keepIn K (.ref fZ) = true)
    (z0 : PySem.W.nsIn K mainGlobals "len" = some none)
    (z1 : PySem.W.nsIn K mainGlobals "range" = some none)
    (z2 : PySem.W.nsIn K mainGlobals "tuple" = some none)
    (z3 : PySem.W.nsIn K mainGlobals "sorted" = some none)
    (z4 : PySem.W.nsIn K mainGlobals "repr" = some none)
    (z5 : PySem.W.nsIn K mainGlobals "list" = some none)
    (z6 : PySem.W.nsIn K mainGlobals "isinstance" = some none)
    (z7 : PySem.W.nsIn K mainGlobals "int" = some none)
    (z8 : PySem.W.nsIn K mainGlobals "bool" = some none)
    (z9 : PySem.W.nsIn K mainGlobals "all" = some none)
    (z10 : PySem.W.nsIn K mainGlobals "str" = some none)
    (z11 : PySem.W.nsIn K mainGlobals "set" = some none)
    (z12 : PySem.W.nsIn K mainGlobals "max" = some none)
    (z13 : PySem.W.nsIn K mainGlobals "min" = some none)
    (qW : PySem.W.nsIn K mainGlobals "MOST_WITHIN" = some (some (.int 24 tkW)))
    : ∃ fd : FuncData, (∀ (s : Shared) (v : Value), BindsTo s fd ⟨[v], []⟩ [("_law_script", v)]) ∧ ∀ base : Heap, K.In base → base.Ns mainGlobals mg → FnOk l.prog w K mg base CX0 32 fa fd ["_law_script"] (spLaw K) := by
  have e := hfa.symm.trans (PySem.W.mg_of X G aZ)
  cases e
  have FTa := fun_mk (st := sTape) lTa cTa kTa
  have FD := fun_mk (st := sDraw) lD cD kD
  have FNu := fun_mk (st := sNum) lNu cNu kNu
  have FTo := fun_mk (st := sTof) lTo cTo kTo
  have FRs := fun_mk (st := sRis) lRs cRs kRs
  have FIp := fun_mk (st := sIp) lIp cIp kIp
  have FPw := fun_mk (st := sPw) lPw cPw kPw
  have FPp := fun_mk (st := sPp) lPp cPp kPp
  have FCh := fun_mk (st := sCh) lCh cCh kCh
  have FCo := fun_mk (st := sCo) lCo cCo kCo
  have FPo := fun_mk (st := sPo) lPo cPo kPo
  have FDe := fun_mk (st := sDe) lDe cDe kDe
  have FOr := fun_mk (st := sOrder) lOr cOr kOr
  have FB := fun_mk (st := sBent) lB cB kB
  have FPn := fun_mk (st := sPn) lPn cPn kPn
  have FLq := fun_mk (st := sLq) lLq cLq kLq
  have FLp := fun_mk (st := sLp) lLp cLp kLp
  have FLf := fun_mk (st := sLf) lLf cLf kLf
  have FLc := fun_mk (st := sLc) lLc cLc kLc
  have FR := fun_mk (st := sRight) lR cR kR
  have FLd := fun_mk (st := sLd) lLd cLd kLd
  have FPr := fun_mk (st := sPr) lPr cPr kPr
  have FZ := fun_mk (st := sLaw) lZ cZ kZ
  have bTa := FTa.binds (ps := ["_law_script"]) fun _ _ _ _ _ _ us hl => match us, hl with | [_], _ => rfl
  have mTa := PySem.W.mg_of X G aTa
  have bD := FD.binds (ps := ["_law_tape_here", "_law_many"]) fun _ _ _ _ _ _ us hl => match us, hl with | [_, _], _ => rfl
  have mD := PySem.W.mg_of X G aD
  have bNu := FNu.binds (ps := ["thing"]) fun _ _ _ _ _ _ us hl => match us, hl with | [_], _ => rfl
  have mNu := PySem.W.mg_of X G aNu
  have bTo := FTo.binds (ps := ["thing", "count"]) fun _ _ _ _ _ _ us hl => match us, hl with | [_, _], _ => rfl
  have mTo := PySem.W.mg_of X G aTo
  have bRs := FRs.binds (ps := ["things"]) fun _ _ _ _ _ _ us hl => match us, hl with | [_], _ => rfl
  have mRs := PySem.W.mg_of X G aRs
  have bIp := FIp.binds (ps := ["thing"]) fun _ _ _ _ _ _ us hl => match us, hl with | [_], _ => rfl
  have mIp := PySem.W.mg_of X G aIp
  have bPw := FPw.binds (ps := ["thing", "most"]) fun _ _ _ _ _ _ us hl => match us, hl with | [_, _], _ => rfl
  have mPw := PySem.W.mg_of X G aPw
  have bPp := FPp.binds (ps := ["thing"]) fun _ _ _ _ _ _ us hl => match us, hl with | [_], _ => rfl
  have mPp := PySem.W.mg_of X G aPp
  have bCh := FCh.binds (ps := ["plan", "place"]) fun _ _ _ _ _ _ us hl => match us, hl with | [_, _], _ => rfl
  have mCh := PySem.W.mg_of X G aCh
  have bCo := FCo.binds (ps := ["plan", "place"]) fun _ _ _ _ _ _ us hl => match us, hl with | [_, _], _ => rfl
  have mCo := PySem.W.mg_of X G aCo
  have bPo := FPo.binds (ps := ["plan"]) fun _ _ _ _ _ _ us hl => match us, hl with | [_], _ => rfl
  have mPo := PySem.W.mg_of X G aPo
  have bDe := FDe.binds (ps := ["plan"]) fun _ _ _ _ _ _ us hl => match us, hl with | [_], _ => rfl
  have mDe := PySem.W.mg_of X G aDe
  have bOr := FOr.binds (ps := ["_law_tape_here", "_law_n"]) fun _ _ _ _ _ _ us hl => match us, hl with | [_, _], _ => rfl
  have mOr := PySem.W.mg_of X G aOr
  have bB := FB.binds (ps := ["_law_tape_here", "_law_thing"]) fun _ _ _ _ _ _ us hl => match us, hl with | [_, _], _ => rfl
  have mB := PySem.W.mg_of X G aB
  have bPn := FPn.binds (ps := ["_law_tape_here", "_law_pool"]) fun _ _ _ _ _ _ us hl => match us, hl with | [_, _], _ => rfl
  have mPn := PySem.W.mg_of X G aPn
  have bLq := FLq.binds (ps := ["_law_thing"]) fun _ _ _ _ _ _ us hl => match us, hl with | [_], _ => rfl
  have mLq := PySem.W.mg_of X G aLq
  have bLp := FLp.binds (ps := ["_law_thing", "_law_deep_here"]) fun _ _ _ _ _ _ us hl => match us, hl with | [_, _], _ => rfl
  have mLp := PySem.W.mg_of X G aLp
  have bLf := FLf.binds (ps := ["_law_plan_here"]) fun _ _ _ _ _ _ us hl => match us, hl with | [_], _ => rfl
  have mLf := PySem.W.mg_of X G aLf
  have bLc := FLc.binds (ps := ["_law_plan_here", "_law_place"]) fun _ _ _ _ _ _ us hl => match us, hl with | [_, _], _ => rfl
  have mLc := PySem.W.mg_of X G aLc
  have bR := FR.binds (ps := ["_law_thing"]) fun _ _ _ _ _ _ us hl => match us, hl with | [_], _ => rfl
  have mR := PySem.W.mg_of X G aR
  have bLd := FLd.binds (ps := ["_law_many"]) fun _ _ _ _ _ _ us hl => match us, hl with | [_], _ => rfl
  have mLd := PySem.W.mg_of X G aLd
  have bPr := FPr.binds (ps := ["_law_plan_here"]) fun _ _ _ _ _ _ us hl => match us, hl with | [_], _ => rfl
  have mPr := PySem.W.mg_of X G aPr
  have mb0 := PySem.W.mg_none_of X G z0
  have mb1 := PySem.W.mg_none_of X G z1
  have mb2 := PySem.W.mg_none_of X G z2
  have mb3 := PySem.W.mg_none_of X G z3
  have mb4 := PySem.W.mg_none_of X G z4
  have mb5 := PySem.W.mg_none_of X G z5
  have mb6 := PySem.W.mg_none_of X G z6
  have mb7 := PySem.W.mg_none_of X G z7
  have mb8 := PySem.W.mg_none_of X G z8
  have mb9 := PySem.W.mg_none_of X G z9
  have mb10 := PySem.W.mg_none_of X G z10
  have mb11 := PySem.W.mg_none_of X G z11
  have mb12 := PySem.W.mg_none_of X G z12
  have mb13 := PySem.W.mg_none_of X G z13
  have mqW := PySem.W.mg_of X G qW
  exact ⟨PySem.W.fnOf "law" "law" (defArgs sLaw) (defBody sLaw) (defScope sLaw) .none kVZ dcZ pmZ anZ cdZ ctZ, fun s v => .of_eq rfl, fun base _ _ => ok_law FZ FTa bTa mTa FD bD mD FNu bNu mNu FTo bTo mTo FRs bRs mRs FIp bIp mIp FPw bPw mPw FPp bPp mPp FCh bCh mCh FCo bCo mCo FPo bPo mPo FDe bDe mDe FOr bOr mOr FB bB mB FPn bPn mPn FLq bLq mLq FLp bLp mLp FLf bLf mLf FLc bLc mLc FR bR mR FLd bLd mLd FPr bPr mPr mb0 mb1 mb2 mb3 mb4 mb5 mb6 mb7 mb8 mb9 mb10 mb11 mb12 mb13 mqW⟩
theorem walk {l : PySem.W.OpenLaw} {q : Program} {loose : List Str} {XP : (Str → Option Value) → Heap → Prop} {YP : World → Heap → Prop} {d : DefRec} {K : Params → PySem.W.Frag} (hn : l.most = some 63) (hdf : d.params.defaults = [])
    (hY : ∀ (w : World) (h : Heap), YP w h → (K w.params).In h)
    (F : ∀ (w : World) (mg : Str → Option Value) (fa : Addr) (h : Heap), (K w.params).In h → h.Ns mainGlobals mg → mg d.name = some (.ref fa) →
      ∃ fd : FuncData, (∀ (s : Shared) (u : Value), BindsTo s fd ⟨[u], []⟩ [("_law_script", u)]) ∧ ∀ base : Heap, (K w.params).In base → base.Ns mainGlobals mg → FnOk l.prog w (K w.params) mg base CX0 32 fa fd ["_law_script"] (spLaw (K w.params))) :
    PySem.W.WalkO q loose XP YP l.row.toRowW d [] (fun f vs => PySem.call f vs) :=
  L2.walk_of (n := 63) (k := 32) (x := "_law_script") (CX := fun _ => CX0) (sp := fun w => spLaw (K w.params)) hn (by decide) hdf ⟨rfl, by decide, by decide, rfl⟩ hY F (fun _ _ a ns hl _ hS => ⟨a, ns, rfl, hS, hl, fun _ => rfl⟩) fun _ _ _ _ _ z => z
end K38
open PySem PySem.W PyProof.Rows
set_option maxRecDepth 100000 in
set_option maxHeartbeats 0 in
theorem PySem.Challenge.cw_labelways_k38_plans_by_kind_holds : PySem.Challenge.rw_labelways_k38_plans_by_kind.Holds := by
  w_on; o_law; k_head; (case hw => w_witness2)
  k_fill
  refine K38.walk (l := PySem.Challenge.rw_labelways_k38_plans_by_kind) rfl rfl (fun w h Y => PySem.W.kIn_of Y) ?F
  case F =>
    intro w mg fa h KX G hmg
    refine' K38.all_mk KX G hmg ?aTa ?lTa ?cTa ?kTa ?aD ?lD ?cD ?kD ?aNu ?lNu ?cNu ?kNu ?aTo ?lTo ?cTo ?kTo ?aRs ?lRs ?cRs ?kRs ?aIp ?lIp ?cIp ?kIp ?aPw ?lPw ?cPw ?kPw ?aPp ?lPp ?cPp ?kPp ?aCh ?lCh ?cCh ?kCh ?aCo ?lCo ?cCo ?kCo ?aPo ?lPo ?cPo ?kPo ?aDe ?lDe ?cDe ?kDe ?aOr ?lOr ?cOr ?kOr ?aB ?lB ?cB ?kB ?aPn ?lPn ?cPn ?kPn ?aLq ?lLq ?cLq ?kLq ?aLp ?lLp ?cLp ?kLp ?aLf ?lLf ?cLf ?kLf ?aLc ?lLc ?cLc ?kLc ?aR ?lR ?cR ?kR ?aLd ?lLd ?cLd ?kLd ?aPr ?lPr ?cPr ?kPr ?aZ ?lZ ?cZ ?kZ ?z0 ?z1 ?z2 ?z3 ?z4 ?z5 ?z6 ?z7 ?z8 ?z9 ?z10 ?z11 ?z12 ?z13 ?qW
    (case aTa => k_is)
    (case lTa => k_is)
    (case cTa => k_is)
    (case kTa => k_is)
    (case aD => k_is)
    (case lD => k_is)
    (case cD => k_is)
    (case kD => k_is)
    (case aNu => k_is)
    (case lNu => k_is)
    (case cNu => k_is)
    (case kNu => k_is)
    (case aTo => k_is)
    (case lTo => k_is)
    (case cTo => k_is)
    (case kTo => k_is)
    (case aRs => k_is)
    (case lRs => k_is)
    (case cRs => k_is)
    (case kRs => k_is)
    (case aIp => k_is)
    (case lIp => k_is)
    (case cIp => k_is)
    (case kIp => k_is)
    (case aPw => k_is)
    (case lPw => k_is)
    (case cPw => k_is)
    (case kPw => k_is)
    (case aPp => k_is)
    (case lPp => k_is)
    (case cPp => k_is)
    (case kPp => k_is)
    (case aCh => k_is)
    (case lCh => k_is)
    (case cCh => k_is)
    (case kCh => k_is)
    (case aCo => k_is)
    (case lCo => k_is)
    (case cCo => k_is)
    (case kCo => k_is)
    (case aPo => k_is)
    (case lPo => k_is)
    (case cPo => k_is)
    (case kPo => k_is)
    (case aDe => k_is)
    (case lDe => k_is)
    (case cDe => k_is)
    (case kDe => k_is)
    (case aOr => k_is)
    (case lOr => k_is)
    (case cOr => k_is)
    (case kOr => k_is)
    (case aB => k_is)
    (case lB => k_is)
    (case cB => k_is)
    (case kB => k_is)
    (case aPn => k_is)
    (case lPn => k_is)
    (case cPn => k_is)
    (case kPn => k_is)
    (case aLq => k_is)
    (case lLq => k_is)
    (case cLq => k_is)
    (case kLq => k_is)
    (case aLp => k_is)
    (case lLp => k_is)
    (case cLp => k_is)
    (case kLp => k_is)
    (case aLf => k_is)
    (case lLf => k_is)
    (case cLf => k_is)
    (case kLf => k_is)
    (case aLc => k_is)
    (case lLc => k_is)
    (case cLc => k_is)
    (case kLc => k_is)
    (case aR => k_is)
    (case lR => k_is)
    (case cR => k_is)
    (case kR => k_is)
    (case aLd => k_is)
    (case lLd => k_is)
    (case cLd => k_is)
    (case kLd => k_is)
    (case aPr => k_is)
    (case lPr => k_is)
    (case cPr => k_is)
    (case kPr => k_is)
    (case aZ => k_is)
    (case lZ => k_is)
    (case cZ => k_is)
    (case kZ => k_is)
    (case z0 => k_is)
    (case z1 => k_is)
    (case z2 => k_is)
    (case z3 => k_is)
    (case z4 => k_is)
    (case z5 => k_is)
    (case z6 => k_is)
    (case z7 => k_is)
    (case z8 => k_is)
    (case z9 => k_is)
    (case z10 => k_is)
    (case z11 => k_is)
    (case z12 => k_is)
    (case z13 => k_is)
    (case qW => k_is)
