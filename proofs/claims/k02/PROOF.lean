import PyProof.Rows.All
import Wide.All
import OpenK.AllK
import Wide.FinOn
import Lean
import PyProof.EqAt
import PyProof.EqKinds
import PyProof.TupleCall
import PyProof.ListRange
import PySem.Challenge.RW_labelways_k02_ties_and_neighbours
set_option Elab.async false
set_option linter.all false
set_option maxRecDepth 100000
/-! THE HAND LAYER, for ints, bools, texts, own classes, LISTS and tuples (index, slices, in, append, pop ..), calls, loops. Paste it whole ahead of your own text; what your proof does not reach may be deleted. -/
namespace L2
open PySem PySem.Spec PyProof.Rows

/-- a key: an int or a str -/
abbrev Key := Sum Int Str
def keyIs : Key → Value → Bool
  | .inl k, v => Value.isInt k v
  | .inr x, v => Value.isStrOf x v
def keyH (w : World) : Key → Int
  | .inl k => hashInt k
  | .inr x => hashStr w x
theorem keyIs_shape : ∀ {k : Key} {v : Value}, keyIs k v = true → (∃ i t, k = Sum.inl i ∧ v = Value.int i t) ∨ (∃ x t, k = Sum.inr x ∧ v = Value.str x t)
  | .inl i, v, h => by
    obtain ⟨t, e⟩ := Value.isInt_shape (k := i) (v := v) h
    exact .inl ⟨i, t, rfl, e⟩
  | .inr x, v, h => by
    obtain ⟨t, e⟩ := Value.isStrOf_shape (x := x) (v := v) h
    exact .inr ⟨x, t, rfl, e⟩
theorem keyIs_int (i : Int) (t : Tok) : keyIs (.inl i) (.int i t) = true := by simp [keyIs, Value.isInt]
theorem keyIs_str (x : Str) (t : Tok) : keyIs (.inr x) (.str x t) = true := by simp [keyIs, Value.isStrOf]
theorem key_ll (a b : Int) : decide ((Sum.inl a : Key) = Sum.inl b) = (a == b) := by
  by_cases e : a = b
  · subst e; simp
  · have h : ¬ (Sum.inl a : Key) = Sum.inl b := fun q => e (Sum.inl.inj q)
    rw [decide_eq_false h]
    exact (beq_eq_false_iff_ne.mpr e).symm
theorem key_rr (a b : Str) : decide ((Sum.inr a : Key) = Sum.inr b) = decide (a = b) := by
  by_cases e : a = b
  · subst e; simp
  · have h : ¬ (Sum.inr a : Key) = Sum.inr b := fun q => e (Sum.inr.inj q)
    rw [decide_eq_false h, decide_eq_false e]
theorem key_lr (a : Int) (b : Str) : decide ((Sum.inl a : Key) = Sum.inr b) = false := decide_eq_false (fun q => nomatch q)
theorem key_rl (a : Str) (b : Int) : decide ((Sum.inr a : Key) = Sum.inl b) = false := decide_eq_false (fun q => nomatch q)

def mixKind (prog : Program) (w : World) : PySem.KeyKind prog w Key where
  is := keyIs
  hash := keyH w
  inj := fun v a b ha hb => by
    rcases keyIs_shape ha with ⟨i, t, rfl, rfl⟩ | ⟨x, t, rfl, rfl⟩
    · rcases keyIs_shape hb with ⟨j, u, rfl, e⟩ | ⟨y, u, rfl, e⟩
      · injection e with e1 _; rw [e1]
      · exact nomatch e
    · rcases keyIs_shape hb with ⟨j, u, rfl, e⟩ | ⟨y, u, rfl, e⟩
      · exact nomatch e
      · injection e with e1 _; rw [e1]
  byValue := fun k v h => by
    rcases keyIs_shape h with ⟨i, t, rfl, rfl⟩ | ⟨x, t, rfl, rfl⟩ <;> rfl
  pyHash := fun hv h => by
    rcases keyIs_shape hv with ⟨i, t, rfl, rfl⟩ | ⟨x, t, rfl, rfl⟩
    · exact wpAny_pyHash_int h
    · exact wpAny_pyHash_str h
  eqBool := fun hu hv h => by
    rcases keyIs_shape hu with ⟨i, t, rfl, rfl⟩ | ⟨x, t, rfl, rfl⟩
    · rcases keyIs_shape hv with ⟨j, u, rfl, rfl⟩ | ⟨y, u, rfl, rfl⟩
      · rw [key_ll] at h; exact wpAny_eqBool_int h
      · rw [key_lr] at h; exact SeqAt.EqAt.int_str i t y u _ _ _ _ h
    · rcases keyIs_shape hv with ⟨j, u, rfl, rfl⟩ | ⟨y, u, rfl, rfl⟩
      · rw [key_rl] at h; exact SeqAt.EqAt.str_int x t j u _ _ _ _ h
      · rw [key_rr] at h; exact wpAny_eqBool_str h
  «strs» := fun k x t v h => by
    rcases keyIs_shape h with ⟨i, u, rfl, e⟩ | ⟨y, u, rfl, e⟩
    · exact nomatch e
    · injection e with e1 _
      subst e1
      cases v <;> rfl

theorem mixKind_is (prog : Program) (w : World) (k : Key) (v : Value) : (mixKind prog w).is k v = keyIs k v := rfl
theorem mixKind_int (prog : Program) (w : World) (i : Int) (t : Tok) : (mixKind prog w).is (.inl i) (.int i t) = true := keyIs_int i t
theorem mixKind_str (prog : Program) (w : World) (x : Str) (t : Tok) : (mixKind prog w).is (.inr x) (.str x t) = true := keyIs_str x t
end L2

namespace L2
open PySem PySem.Spec PyProof.Rows

/-- a value, without the heap -/
inductive V where
  | non | bl (b : Bool) | int (i : Int) | str (x : Str) | byt (b : Array UInt8) | flt (b : UInt64) | ref (a : Addr) | ty (n : String)
  deriving DecidableEq

def RelV : V → Value → Prop
  | .non, u => u = Value.none
  | .bl b, u => u = Value.bool b
  | .int i, u => ∃ t, u = Value.int i t
  | .str x, u => ∃ t, u = Value.str x t
  | .byt b, u => ∃ t, u = Value.bytes b t
  | .flt b, u => ∃ t, u = Value.float b t
  | .ref a, u => u = Value.ref a
  | .ty n, u => u = Value.type n

abbrev Vals : List V → List Value → Prop := Paired RelV
theorem Vals.length {xs : List V} {us : List Value} (r : Vals xs us) : xs.length = us.length := Paired.length r
theorem Vals.get : ∀ {xs : List V} {us : List Value} {i : Nat} {x : V}, Vals xs us → xs[i]? = some x → ∃ u, us[i]? = some u ∧ RelV x u
  | _, _, _, _, .nil, e => by simp at e
  | _, _, 0, _, .cons r _, e => by simp at e; subst e; exact ⟨_, rfl, r⟩
  | _, _, i + 1, x, .cons _ t, e => by
    obtain ⟨u, h1, h2⟩ := Vals.get (i := i) (x := x) t (by simpa using e)
    exact ⟨u, by simpa using h1, h2⟩
theorem Vals.set {x : V} {u : Value} (r : RelV x u) : ∀ {xs : List V} {us : List Value} (i : Nat), Vals xs us → Vals (xs.set i x) (us.set i u)
  | _, _, _, .nil => .nil
  | _, _, 0, .cons _ t => .cons r t
  | _, _, i + 1, .cons q t => .cons q (Vals.set r i t)
theorem Vals.append : ∀ {xs ys : List V} {us ws : List Value}, Vals xs us → Vals ys ws → Vals (xs ++ ys) (us ++ ws)
  | _, _, _, _, .nil, s => s
  | _, _, _, _, .cons r t, s => .cons r (Vals.append t s)
theorem Vals.take : ∀ {xs : List V} {us : List Value} (n : Nat), Vals xs us → Vals (xs.take n) (us.take n)
  | _, _, 0, _ => .nil
  | _, _, _ + 1, .nil => .nil
  | _, _, n + 1, .cons r t => .cons r (Vals.take n t)
theorem Vals.drop : ∀ {xs : List V} {us : List Value} (n : Nat), Vals xs us → Vals (xs.drop n) (us.drop n)
  | _, _, 0, r => r
  | _, _, _ + 1, .nil => .nil
  | _, _, n + 1, .cons _ t => Vals.drop n t
theorem Vals.none_of : ∀ {xs : List V} {us : List Value} {i : Nat}, Vals xs us → xs[i]? = none → us[i]? = none := fun {xs us i} r e => by
  have h1 := r.length
  have h2 : xs.length ≤ i := List.getElem?_eq_none_iff.mp e
  exact List.getElem?_eq_none_iff.mpr (by omega)

def RelO : Option V → Option Value → Prop
  | some v, some u => RelV v u
  | none, none => True
  | _, _ => False
def KV {κ : Type} : List (κ × V) → List (κ × Value) → Prop := Paired fun (p : κ × V) (q : κ × Value) => p.1 = q.1 ∧ RelV p.2 q.2

/-- a key of a dict (00_mix): an int or a text -/
def kV : Key → V
  | .inl i => .int i
  | .inr x => .str x

/-- what stands at a tracked address -/
inductive HO where
  /-- a list -/
  | lst (xs : List V)
  /-- a tuple (never changes) -/
  | tup (xs : List V)
  /-- a dict whose keys are ints and texts; one whose keys are tuples of ints and texts (the empty one is both) -/
  | dK (kvs : List (Key × V)) | dT (kvs : List (List Key × V))
  /-- a set of ints: its members, its size -/
  | set (S : Int → Bool) (n : Nat)
  /-- an instance of the class at C, its dict at dx, its attributes -/
  | ins (C dx : Addr) (fs : List (Str × V))
  /-- the dict of the instance at x -/
  | own (x : Addr)
  /-- the dict of an exception -/
  | xd (fs : List (Str × V))
  /-- a bound method, f of x -/
  | met (f x : Addr)
  /-- a range object lo, lo + 1, .. below hi -/
  | rng (lo hi : Int)
  /-- a thing that is known to the object (the script; a dict while a loop walks it): read, never written while it is so -/
  | frz (o : Obj) (u : HO)
  /-- a code object's table -/
  | tbl (ps : Array Value)
  /-- any other thing, by what is true of its one object (a def of one's own: SetO a S n := HO.ext fun h => ..) -/
  | ext (φ : Heap → Prop)

abbrev Hp := Addr → Option HO
def upd (H : Hp) (a : Addr) (o : HO) : Hp := fun b => if b = a then some o else H b
theorem upd_same {H : Hp} {a : Addr} {o : HO} : upd H a o a = some o := by unfold upd; rw [if_pos rfl]
theorem upd_ne {H : Hp} {a b : Addr} {o : HO} (h : b ≠ a) : upd H a o b = H b := by unfold upd; rw [if_neg h]
theorem upd_upd {H : Hp} {a : Addr} {o u : HO} : upd (upd H a o) a u = upd H a u := by
  funext b; unfold upd; split <;> rfl
/-- two objects of different content stand apart -/
theorem ne_of {H : Hp} {a b : Addr} {o u : HO} (h : H a = some o) (h' : H b = some u) (d : o ≠ u) : a ≠ b := by
  intro e; subst e; rw [h] at h'; exact d (Option.some.inj h')
theorem ne_of_none {H : Hp} {a b : Addr} {o : HO} (h : H a = some o) (h' : H b = none) : a ≠ b := by
  intro e; subst e; rw [h] at h'; cases h'

section
variable (P : Program) (w : World)
def ObjOk (H : Hp) (h : Heap) (a : Addr) : HO → Prop
  | .lst xs => xs.length ≤ sizeLine ∧ ∃ (its : List Value) (n : Nat), Vals xs its ∧ h.get? a = some { cls := .type "list", data := .seq its.toArray n }
  | .tup xs => (xs.length ≤ sizeLine ∧ ∃ o, h.get? a = some o ∧ o.dict = none) ∧ ∃ its : List Value, Vals xs its ∧ IsTup h a its.toArray
  | .dK kvs => kvs.length ≤ sizeLine ∧ (a == sysModules) = false ∧ ∃ vs, KV kvs vs ∧ h.DictOf (mixKind P w) a vs
  | .dT kvs => kvs.length ≤ sizeLine ∧ (a == sysModules) = false ∧ ∃ xs : List (List Key × Addr × Value),
      Paired (fun (p : List Key × V) (q : List Key × Addr × Value) => p.1 = q.1 ∧ H q.2.1 = some (.tup (p.1.map kV)) ∧ RelV p.2 q.2.2) kvs xs ∧
      ∃ o es ep, h.get? a = some o ∧ o.ExactDict ∧ o.data = .dict es ep ∧ es.toList = xs.map (entryOfKey (tupleKind (mixKind P w))) ∧ (xs.map (·.1)).Nodup
  | .set S n => h.SetOf (intKind P w) a S n
  | .ins C dx fs => H dx = some (.own a) ∧ fs.length ≤ 1000 ∧ dx ≠ a ∧ h.get? a = some (PySem.W.instObj C dx) ∧
      ∃ mA, h.Ns1 dx mA ∧ (∀ f, RelO (fs.lookup f) (mA f)) ∧ PySem.Within mA (fs.map (·.1))
  | .own _ => ∃ o, h.get? a = some o
  | .xd fs => ∃ mA, h.Ns1 a mA ∧ ∀ f, RelO (fs.lookup f) (mA f)
  | .rng lo hi => ∃ t u v, h.get? a = some { cls := .type "range", data := .fields #[.int lo t, .int hi u, .int 1 v] }
  | .frz o u => h.get? a = some o ∧ ObjOk H h a u
  | .tbl ps => h.get? a = some { cls := .none, data := .fields ps }
  | .met f x => h.get? a = some (PySem.W.methodObj (.ref f) (.ref x))
  | .ext φ => φ h ∧ (∃ o, h.get? a = some o) ∧ ∀ h1 h2 : Heap, φ h1 → (∀ o, h1.get? a = some o → h2.get? a = some o) → φ h2
/-- the abstract heap is held -/
def HOk (H : Hp) (h : Heap) : Prop := ∀ a o, H a = some o → ObjOk P w H h a o
end

section
variable {P : Program} {w : World} {H H' : Hp} {h h' : Heap} {a : Addr} {o : HO}
theorem ObjOk.lt (x : ObjOk P w H h a o) : a < h.objs.size := by
  cases o with
  | lst xs => obtain ⟨_, _, _, _, e⟩ := x; exact Heap.lt_size e
  | tup xs => obtain ⟨_, _, _, p⟩ := x; exact p.lt
  | dK kvs => obtain ⟨_, _, _, _, o, _, _, e, _⟩ := x; exact Heap.lt_size e
  | dT kvs => obtain ⟨_, _, _, _, o, _, _, e, _⟩ := x; exact Heap.lt_size e
  | set S n => obtain ⟨o, _, _, _, e, _⟩ := x; exact Heap.lt_size e
  | ins C dx fs => obtain ⟨_, _, _, e, _⟩ := x; exact Heap.lt_size e
  | own y => obtain ⟨_, e⟩ := x; exact Heap.lt_size e
  | xd fs => obtain ⟨_, ⟨_, _, _, e, _⟩, _⟩ := x; exact Heap.lt_size e
  | rng lo hi => obtain ⟨_, _, _, e⟩ := x; exact Heap.lt_size e
  | frz ob u => obtain ⟨e, _⟩ := x; exact Heap.lt_size e
  | tbl ps => exact Heap.lt_size (show h.get? a = some _ from x)
  | met f y => exact Heap.lt_size (show h.get? a = some _ from x)
  | ext φ => obtain ⟨_, ⟨_, e⟩, _⟩ := x; exact Heap.lt_size e
theorem Paired.mapP {α β : Type} {F G : α → β → Prop} : ∀ {l₁ : List α} {l₂ : List β}, Paired F l₁ l₂ → (∀ a b, F a b → G a b) → Paired G l₁ l₂
  | _, _, .nil, _ => .nil
  | _, _, .cons r t, f => .cons (f _ _ r) (Paired.mapP t f)
theorem Paired.imp' {α β : Type} {F G : α → β → Prop} (f : ∀ a b, F a b → G a b) {l₁ : List α} {l₂ : List β} (r : Paired F l₁ l₂) : Paired G l₁ l₂ := Paired.mapP r f
/-- what an object's description leans on: its own object, its own dict, the tuples -/
theorem ObjOk.stay (x : ObjOk P w H h a o) (k : ∀ b u, (b = a ∨ H b = some (.own a)) → h.get? b = some u → h'.get? b = some u)
    (ho : ∀ b, H b = some (.own a) → H' b = some (.own a)) (ht : ∀ b xs, H b = some (.tup xs) → H' b = some (.tup xs)) : ObjOk P w H' h' a o := by
  induction o with
  | lst xs => obtain ⟨z, its, n, r, e⟩ := x; exact ⟨z, its, n, r, k _ _ (.inl rfl) e⟩
  | tup xs => obtain ⟨⟨z, o2, e2, d2⟩, its, r, ob, e, c⟩ := x; exact ⟨⟨z, o2, k _ _ (.inl rfl) e2, d2⟩, its, r, ob, k _ _ (.inl rfl) e, c⟩
  | dK kvs => obtain ⟨z, y, vs, r, ob, es, ep, e, c⟩ := x; exact ⟨z, y, vs, r, ob, es, ep, k _ _ (.inl rfl) e, c⟩
  | dT kvs =>
    obtain ⟨z, y, xs, r, ob, es, ep, e, c⟩ := x
    exact ⟨z, y, xs, Paired.mapP r fun p q z => ⟨z.1, ht _ _ z.2.1, z.2.2⟩, ob, es, ep, k _ _ (.inl rfl) e, c⟩
  | set S n => obtain ⟨ob, es, ep, t, e, c⟩ := x; exact ⟨ob, es, ep, t, k _ _ (.inl rfl) e, c⟩
  | ins C dx fs =>
    obtain ⟨d, z, ne, e, mA, ⟨od, es, ep, e2, c⟩, r⟩ := x
    exact ⟨ho _ d, z, ne, k _ _ (.inl rfl) e, mA, ⟨od, es, ep, k _ _ (.inr d) e2, c⟩, r⟩
  | own y => obtain ⟨ob, e⟩ := x; exact ⟨ob, k _ _ (.inl rfl) e⟩
  | xd fs => obtain ⟨mA, ⟨od, es, ep, e, c⟩, r⟩ := x; exact ⟨mA, ⟨od, es, ep, k _ _ (.inl rfl) e, c⟩, r⟩
  | rng lo hi => obtain ⟨t, u, v, e⟩ := x; exact ⟨t, u, v, k _ _ (.inl rfl) e⟩
  | frz ob u ih => obtain ⟨e, q⟩ := x; exact ⟨k _ _ (.inl rfl) e, ih q⟩
  | tbl ps =>
    have e : h.get? a = some { cls := .none, data := .fields ps } := x
    show h'.get? a = some { cls := .none, data := .fields ps }
    exact k a _ (.inl rfl) e
  | met f y =>
    have e : h.get? a = some (PySem.W.methodObj (.ref f) (.ref y)) := x
    show h'.get? a = some (PySem.W.methodObj (.ref f) (.ref y))
    exact k a _ (.inl rfl) e
  | ext φ => obtain ⟨p, ⟨o, e⟩, st⟩ := x; exact ⟨st _ _ p fun o q => k _ _ (.inl rfl) q, ⟨o, k _ _ (.inl rfl) e⟩, st⟩
theorem HOk.lt (x : HOk P w H h) (e : H a = some o) : a < h.objs.size := (x a o e).lt
theorem HOk.fresh (x : HOk P w H h) (e : h.objs.size ≤ a) : H a = none := by
  cases q : H a with
  | none => rfl
  | some u => exact absurd (Nat.lt_of_lt_of_le (x.lt q) e) (Nat.lt_irrefl _)
/-- every object of the heap is kept -/
theorem HOk.kept (x : HOk P w H h) (k : ∀ b u, h.get? b = some u → h'.get? b = some u) : HOk P w H h' := fun a o e =>
  (x a o e).stay (fun b u _ q => k b u q) (fun _ q => q) fun _ _ q => q
/-- a new object is laid and tracked -/
theorem HOk.laid (x : HOk P w H h) (k : ∀ b u, h.get? b = some u → h'.get? b = some u) (hp : h.objs.size ≤ a) (new : ObjOk P w (upd H a o) h' a o) : HOk P w (upd H a o) h' := fun b u e => by
  have hn := x.fresh hp
  by_cases hb : b = a
  · subst hb; rw [upd_same] at e; cases e; exact new
  · rw [upd_ne hb] at e
    exact (x b u e).stay (fun c v _ q => k c v q) (fun c q => by rw [upd_ne (ne_of_none q hn)]; exact q) fun c xs q => by rw [upd_ne (ne_of_none q hn)]; exact q
end

/-- what may be read as u: it is u, or a known u -/
def Rd (H : Hp) (a : Addr) (u : HO) : Prop := H a = some u ∨ ∃ o, H a = some (.frz o u)
theorem Rd.of {H : Hp} {a : Addr} {u : HO} (h : H a = some u) : Rd H a u := .inl h
theorem Rd.ok {P : Program} {w : World} {H : Hp} {h : Heap} {a : Addr} {u : HO} (r : Rd H a u) (x : HOk P w H h) : ObjOk P w H h a u := by
  rcases r with r | ⟨o, r⟩
  · exact x a u r
  · obtain ⟨_, q⟩ := x a _ r
    exact q
/-- what may be written -/
def Mut : Option HO → Prop
  | some (.lst _) => True
  | some (.dK _) => True
  | some (.dT _) => True
  | some (.set _ _) => True
  | some (.ins _ _ _) => True
  | some (.ext _) => True
  | _ => False
section
variable {P : Program} {w : World} {H : Hp} {h h' : Heap} {x e : Addr} {o' : HO}
/-- the object at e is changed: x itself, or the dict of the instance x -/
theorem HOk.write (ok : HOk P w H h) (mu : Mut (H x)) (he : e = x ∨ H e = some (.own x)) (k : ∀ b u, b ≠ e → h.get? b = some u → h'.get? b = some u) (heo : ∃ u, h'.get? e = some u)
    (new : ObjOk P w (upd H x o') h' x o') : HOk P w (upd H x o') h' := fun b u q => by
  have nown : ∀ c y, H c = some (.own y) → c ≠ x := fun c y r z => by subst z; rw [r] at mu; exact mu
  have ntup : ∀ c xs, H c = some (.tup xs) → c ≠ x := fun c xs r z => by subst z; rw [r] at mu; exact mu
  by_cases hb : b = x
  · subst hb; rw [upd_same] at q; cases q; exact new
  · rw [upd_ne hb] at q
    by_cases hbe : b = e
    · have q' : H b = some (.own x) := by
        rcases he with z | z
        · exact absurd (hbe.trans z) hb
        · rw [hbe]; exact z
      rw [q] at q'; cases q'
      obtain ⟨v, hv⟩ := heo
      exact ⟨v, by rw [hbe]; exact hv⟩
    · refine (ok b u q).stay (fun c v hc r => k c v ?_ r) (fun c r => by rw [upd_ne (nown c b r)]; exact r) fun c xs r => by rw [upd_ne (ntup c xs r)]; exact r
      rcases hc with rfl | hc
      · exact hbe
      · rintro rfl
        rcases he with z | z
        · exact nown c b hc z
        · rw [hc] at z; cases z; exact hb rfl
end

/-! ### kept unless tracked; of the frames at fs (the callers') the slots may change (an exception that passes writes there); of the records at ex (iterators) nothing is said -/
structure Un (fs ex : List Addr) (H H' : Hp) (h h' : Heap) : Prop where
  keep : ∀ b o, h.get? b = some o → H b = none → b ∉ fs → b ∉ ex → h'.get? b = some o
  slot : ∀ b o, h.get? b = some o → H b = none → b ∈ fs → b ∉ ex → ∃ sl, h'.get? b = some { o with slots := sl }
  free : ∀ b o, h.get? b = some o → H b = none → b ∉ ex → H' b = none
  there : ∀ b o, h.get? b = some o → b ∉ ex → ∃ o', h'.get? b = some o'
  tups : ∀ b xs, H b = some (.tup xs) → H' b = some (.tup xs)
  frzs : ∀ b o u, H b = some (.frz o u) → H' b = some (.frz o u)
  tbls : ∀ b ps, H b = some (.tbl ps) → ∃ more, H' b = some (.tbl (ps ++ more))
section
variable {fs fs' ex ex' : List Addr} {H H1 H2 : Hp} {h h1 h2 h' : Heap} {a x e : Addr} {o : HO}
theorem Un.any (u : Un fs ex H H1 h h1) {b : Addr} {ob : Obj} (q : h.get? b = some ob) (n : H b = none) (hx : b ∉ ex) : ∃ sl, h1.get? b = some { ob with slots := sl } := by
  by_cases hb : b ∈ fs
  · exact u.slot b ob q n hb hx
  · exact ⟨ob.slots, u.keep b ob q n hb hx⟩
theorem Un.trans (a : Un fs ex H H1 h h1) (b : Un fs ex H1 H2 h1 h2) : Un fs ex H H2 h h2 where
  keep := fun c ob q n hc hx => b.keep c ob (a.keep c ob q n hc hx) (a.free c ob q n hx) hc hx
  slot := fun c ob q n hc hx => by
    obtain ⟨sl, e1⟩ := a.slot c ob q n hc hx
    obtain ⟨sl', e2⟩ := b.slot c _ e1 (a.free c ob q n hx) hc hx
    exact ⟨sl', e2⟩
  free := fun c ob q n hx => by
    obtain ⟨o', e1⟩ := a.there c ob q hx
    exact b.free c o' e1 (a.free c ob q n hx) hx
  there := fun c ob q hx => by
    obtain ⟨o', e1⟩ := a.there c ob q hx
    exact b.there c o' e1 hx
  tups := fun c xs q => b.tups c xs (a.tups c xs q)
  frzs := fun c ob xs q => b.frzs c ob xs (a.frzs c ob xs q)
  tbls := fun c ps q => by
    obtain ⟨m1, e1⟩ := a.tbls c ps q
    obtain ⟨m2, e2⟩ := b.tbls c _ e1
    exact ⟨m1 ++ m2, by rw [e2, Array.append_assoc]⟩
theorem Un.kept (k : ∀ b u, h.get? b = some u → h'.get? b = some u) : Un fs ex H H h h' :=
  ⟨fun b ob q _ _ _ => k b ob q, fun b ob q _ _ _ => ⟨ob.slots, k b ob q⟩, fun _ _ _ n _ => n, fun b ob q _ => ⟨ob, k b ob q⟩, fun _ _ q => q, fun _ _ _ q => q, fun _ ps q => ⟨#[], by rw [q]; simp⟩⟩
theorem Un.refl : Un fs ex H H h h := Un.kept fun _ _ q => q
theorem Un.laid (k : ∀ b u, h.get? b = some u → h'.get? b = some u) (hp : h.objs.size ≤ a) (hn : H a = none) : Un fs ex H (upd H a o) h h' where
  keep := fun b u q _ _ _ => k b u q
  slot := fun b u q _ _ _ => ⟨u.slots, k b u q⟩
  free := fun b u q n _ => by rw [upd_ne (Nat.ne_of_lt (Nat.lt_of_lt_of_le (Heap.lt_size q) hp))]; exact n
  there := fun b u q _ => ⟨u, k b u q⟩
  tups := fun b xs q => by rw [upd_ne (ne_of_none q hn)]; exact q
  frzs := fun b u xs q => by rw [upd_ne (ne_of_none q hn)]; exact q
  tbls := fun b ps q => ⟨#[], by rw [upd_ne (ne_of_none q hn), q]; simp⟩
theorem Un.write (mu : Mut (H x)) (he : e = x ∨ H e = some (.own x)) (k : ∀ b u, b ≠ e → h.get? b = some u → h'.get? b = some u) (heo : ∃ u, h'.get? e = some u) : Un fs ex H (upd H x o) h h' := by
  have hx : ∀ b, H b = none → b ≠ x := fun b n z => by subst z; rw [n] at mu; exact mu
  have hb : ∀ b, H b = none → b ≠ e := fun b n z => by
    subst z
    rcases he with r | r
    · exact hx b n r
    · rw [n] at r; cases r
  have hm : ∀ b u, H b = some u → ¬ Mut (some u) → b ≠ x := fun b u q nm z => by subst z; rw [q] at mu; exact nm mu
  refine ⟨fun b u q n _ _ => k b u (hb b n) q, fun b u q n _ _ => ⟨u.slots, k b u (hb b n) q⟩, fun b u q n _ => by rw [upd_ne (hx b n)]; exact n, fun b u q _ => ?_,
    fun b xs q => by rw [upd_ne (hm b _ q fun z => z)]; exact q, fun b u xs q => by rw [upd_ne (hm b _ q fun z => z)]; exact q, fun b ps q => ⟨#[], by rw [upd_ne (hm b _ q fun z => z), q]; simp⟩⟩
  by_cases hbe : b = e
  · subst hbe; exact heo
  · exact ⟨u, k b u hbe q⟩
theorem Un.mono (u : Un fs ex H H1 h h1) (hs : ∀ b ∈ fs, b ∈ fs') (hx : ∀ b ∈ ex, b ∈ ex') : Un fs' ex' H H1 h h1 :=
  ⟨fun b ob q n hb he => u.keep b ob q n (fun z => hb (hs b z)) fun z => he (hx b z), fun _ _ q n _ he => u.any q n fun z => he (hx _ z), fun b ob q n he => u.free b ob q n fun z => he (hx b z), fun b ob q he => u.there b ob q fun z => he (hx b z), u.tups, u.frzs, u.tbls⟩
end

/-! ### the heap without what is tracked -/
def trk (h : Heap) (H : Hp) : List Addr := (List.range h.objs.size).filter fun a => (H a).isSome
def hidT (h : Heap) (H : Hp) : Heap := PySem.W.hideAll h (trk h H)
theorem hidT_size (h : Heap) (H : Hp) : (hidT h H).objs.size = h.objs.size := PySem.W.hideAll_size _ _
theorem hidT_get {h : Heap} {H : Hp} {b : Addr} {o : Obj} (e : h.get? b = some o) (n : H b = none) : (hidT h H).get? b = some o :=
  PySem.W.hideAll_get _ e fun hm => by
    have q : (H b).isSome = true := (List.mem_filter.mp hm).2
    rw [n] at q; simp at q
theorem of_hidT {h : Heap} {H : Hp} {b : Addr} {o : Obj} (e : (hidT h H).get? b = some o) : h.get? b = some o ∧ H b = none := by
  have e' : h.get? b = some o := PySem.W.of_hideAll (trk h H) e
  refine ⟨e', ?_⟩
  cases q : H b with
  | none => rfl
  | some x =>
    have hm : b ∈ trk h H := List.mem_filter.mpr ⟨List.mem_range.mpr (Heap.lt_size e'), by simp [q]⟩
    have z : (hidT h H).get? b = none := PySem.W.hideAll_none (trk h H) hm
    rw [z] at e; cases e

/-! ### OpenK's ledger, filled with every new object but one -/
def allNews (g h : Heap) (L : Addr) : List (Addr × Obj) := (List.range h.objs.size).filterMap fun a => if a = L ∨ (g.get? a).isSome = true then none else (h.get? a).map fun o => (a, o)
theorem mem_allNews {g h : Heap} {L a : Addr} {o : Obj} (h1 : a ≠ L) (h2 : g.get? a = none) (h3 : h.get? a = some o) : (a, o) ∈ allNews g h L :=
  List.mem_filterMap.mpr ⟨a, List.mem_range.mpr (Heap.lt_size h3), by simp [h1, h2, h3]⟩
theorem of_mem_allNews {g h : Heap} {L : Addr} {p : Addr × Obj} (hp : p ∈ allNews g h L) : p.1 ≠ L ∧ g.get? p.1 = none ∧ h.get? p.1 = some p.2 := by
  obtain ⟨b, _, e⟩ := List.mem_filterMap.mp hp
  split at e
  · cases e
  · rename_i hn
    cases q : h.get? b with
    | none => rw [q] at e; simp at e
    | some u =>
      rw [q] at e
      simp only [Option.map_some, Option.some.injEq] at e
      subst e
      refine ⟨fun z => hn (.inl z), ?_, q⟩
      show g.get? b = none
      cases r : g.get? b with
      | none => rfl
      | some v => exact (hn (.inr (by simp [r]))).elim
def rest (g h : Heap) (L d : Addr) : List (Addr × Obj) := (allNews g h L).filter fun p => decide (p.1 ≠ d)
theorem rest_ne {g h : Heap} {L d : Addr} : ∀ p ∈ rest g h L d, p.1 ≠ d := fun p hp => of_decide_eq_true (List.mem_filter.mp hp).2
theorem mem_rest {g h : Heap} {L d a : Addr} {o : Obj} (h1 : a ≠ L) (h2 : g.get? a = none) (h3 : h.get? a = some o) (h4 : a ≠ d) : (a, o) ∈ rest g h L d :=
  List.mem_filter.mpr ⟨mem_allNews h1 h2 h3, decide_eq_true h4⟩
theorem news_all {g h : Heap} {L : Addr} : News g L h (allNews g h L) := fun p hp => let ⟨a, b, c⟩ := of_mem_allNews hp; ⟨c, a, b⟩
theorem news_at {g h : Heap} {L d : Addr} {o : Obj} (h1 : d ≠ L) (h2 : g.get? d = none) (h3 : h.get? d = some o) : News g L h ((d, o) :: rest g h L d) := fun p hp => by
  rcases List.mem_cons.mp hp with rfl | hp
  · exact ⟨h3, h1, h2⟩
  · exact news_all p (List.mem_filter.mp hp).1
/-- behind a rule that changed d alone: all else but the frame is kept -/
theorem kept_of_news {g h h' : Heap} {L d : Addr} {m : Str → Option Value} (k : ∀ b o, g.get? b = some o → h.get? b = some o) (F : Fr g L h' m) (N : News g L h' (rest g h L d)) :
    ∀ b o, b ≠ L → b ≠ d → h.get? b = some o → h'.get? b = some o := fun b o h1 h2 e => by
  cases q : g.get? b with
  | some u =>
    have := k b u q
    rw [e] at this; cases this
    exact F.keep b _ q
  | none => exact (N (b, o) (mem_rest h1 q e h2)).1
end L2

namespace L2
open PySem PySem.Spec PyProof.Rows

/-- the module's facts, over the base: the heap at the law's entry without what is tracked there -/
structure Mod (K : PySem.W.Frag) (mg : Str → Option Value) (base : Heap) : Prop where
  kin : K.In base
  glob : base.Ns mainGlobals mg
  blt : ∃ mb, base.Ns builtinsNs mb ∧ ∀ x : Str, x ≠ "__name__" → mb x = bootBuiltins x
  nolimit : base.NoLimit

/-- the context: a def's body (or a comprehension's block) running. base: fixed through the whole law; s₀, H₀: the entry; outer: the frames whose slots others may change (a def's callers); stack: all frames that run;
   ex: iterators that were made ahead of the entry and are walked here (a comprehension's); fn: the names whose cells were made at the entry (a def: all; a comprehension's block: its own); calm: not within an except suite; pn: pins that every state bears; xe: what is wanted of an exception that leaves the code -/
structure Cx where
  prog : Program
  w : World
  K : PySem.W.Frag
  mg : Str → Option Value
  base : Heap
  A : Around
  N : List Str
  s₀ : Shared
  H₀ : Hp
  env : Env
  outer : List Env
  stack : List Env
  ex : List Addr
  fn : Str → Bool
  calm : Bool
  pn : List (Addr × Obj)
  xe : Value → Shared → Prop
/-- the callers' frames -/
def frs (l : List Env) : List Addr := l.filterMap (·.frame)
abbrev Cx.fs (X : Cx) : List Addr := frs X.outer

def Vis (sc : Scope) (x : Str) : Prop := sc.names.lookup x = some .local ∨ sc.names.lookup x = some .cell ∨ sc.names.lookup x = some .free
def Loc (sc : Scope) (x : Str) : Prop := sc.names.lookup x = some .local ∨ sc.names.lookup x = some .cell
def Look (env : Env) (h : Heap) (m : Str → Option Value) (x : Str) (u : Value) : Prop :=
  (env.kindOf x = some .local ∧ m x = some u) ∨ ((env.kindOf x = some .cell ∨ env.kindOf x = some .free) ∧ ∃ c, env.cells.lookup x = some c ∧ h.IsCell c (some u))

structure Cx.Ok (X : Cx) : Prop where
  mod : Mod X.K X.mg X.base
  kind : X.env.scope.kind = .function
  glob : X.env.globals = mainGlobals
  blt : X.env.builtins = builtinsNs
  above : X.s₀.heap.objs.size ≤ X.env.locals
  inj : ∀ x y c, X.env.cells.lookup x = some c → X.env.cells.lookup y = some c → x = y
  has : ∀ x, (X.env.kindOf x = some .cell ∨ X.env.kindOf x = some .free) → ∃ c, X.env.cells.lookup x = some c
  cab : ∀ x c, X.fn x = true → X.env.cells.lookup x = some c → X.s₀.heap.objs.size ≤ c
  hd : X.calm = true → X.A.handled = none
  frames : X.A.frames = some X.stack
  stk : X.stack = X.outer ∨ (X.stack = X.env :: X.outer ∧ X.env.frame = some X.env.locals)
  exf : ∀ b ∈ X.ex, b ≠ X.env.locals ∧ ∀ x c, X.env.cells.lookup x = some c → c ≠ b
  bs : ∀ b o, X.base.get? b = some o → X.s₀.heap.get? b = some o ∧ X.H₀ b = none
  bsz : X.base.objs.size ≤ X.s₀.heap.objs.size
  noex : ∀ b o, X.base.get? b = some o → b ∉ X.ex
  exfs : ∀ b ∈ X.ex, b ∉ X.fs
  funs : X.s₀.heap.FunFrames X.base X.outer
  frf : ∀ b ∈ X.fs, X.H₀ b = none

structure Inv (X : Cx) (pins : List (Addr × Obj)) (σ : List (Option V)) (H : Hp) (s : Shared) : Prop where
  ok : X.Ok
  os : s.os = X.s₀.os
  bare : AllBare s.gens
  base : Un X.fs X.ex X.H₀ H X.s₀.heap s.heap
  loc : ∃ m, s.heap.Ns X.env.locals m ∧ ∀ (i : Nat) (x : Str) (v : V), X.N[i]? = some x → σ[i]? = some (some v) → Vis X.env.scope x → ∃ u, RelV v u ∧ Look X.env s.heap m x u
  cell : ∀ x c, X.env.cells.lookup x = some c → ∃ v, s.heap.IsCell c v
  free : H X.env.locals = none
  freeC : ∀ x c, X.env.cells.lookup x = some c → H c = none
  pin : ∀ p ∈ X.pn ++ pins, s.heap.get? p.1 = some p.2 ∧ H p.1 = none ∧ p.1 ≠ X.env.locals ∧ p.1 ∉ X.fs ∧ ∀ v, p.2.data ≠ .cell v
  hok : HOk X.prog X.w H s.heap
  len : σ.length = X.N.length

section
variable {X : Cx} {pins : List (Addr × Obj)} {σ : List (Option V)} {H H' : Hp} {s : Shared} {h' : Heap}

theorem Cx.Ok.nofr (ok : X.Ok) {b : Addr} {o : Obj} (e : X.base.get? b = some o) : b ∉ X.fs := fun hb => by
  have := (ok.funs.mem hb).1
  rw [e] at this; cases this
theorem Inv.bs (I : Inv X pins σ H s) : ∀ b o, X.base.get? b = some o → s.heap.get? b = some o ∧ H b = none := fun b o e =>
  ⟨I.base.keep b o (I.ok.bs b o e).1 (I.ok.bs b o e).2 (I.ok.nofr e) (I.ok.noex b o e), I.base.free b o (I.ok.bs b o e).1 (I.ok.bs b o e).2 (I.ok.noex b o e)⟩
theorem Inv.bk (I : Inv X pins σ H s) : ∀ b o, X.base.get? b = some o → s.heap.get? b = some o := fun b o e => (I.bs b o e).1
theorem Inv.mod (I : Inv X pins σ H s) : Mod X.K X.mg X.base := I.ok.mod
theorem Inv.kIn (I : Inv X pins σ H s) : X.K.In s.heap := I.ok.mod.kin.keeps I.bk
theorem Inv.nolimit (I : Inv X pins σ H s) : s.heap.NoLimit := I.ok.mod.nolimit.keeps I.bk
/-- the frame over the base: for OpenK's rules (K.In X.base is I.mod.kin) -/
theorem Inv.fr (I : Inv X pins σ H s) : ∃ m, Fr X.base X.env.locals s.heap m :=
  let ⟨m, hn, _⟩ := I.loc
  ⟨m, hn, I.bk, Nat.le_trans I.ok.bsz I.ok.above⟩
theorem Inv.lt (I : Inv X pins σ H s) : X.env.locals < s.heap.objs.size := let ⟨_, hn, _⟩ := I.loc; hn.lt
theorem Inv.sz (I : Inv X pins σ H s) : X.s₀.heap.objs.size ≤ s.heap.objs.size := Nat.le_trans I.ok.above (Nat.le_of_lt I.lt)
theorem Inv.nofs (I : Inv X pins σ H s) {a : Addr} (h : s.heap.objs.size ≤ a) : a ∉ X.fs := fun hb => by
  obtain ⟨_, o, ho, _⟩ := I.ok.funs.mem hb
  exact absurd (Nat.lt_of_lt_of_le (Heap.lt_size ho) (Nat.le_trans I.sz h)) (Nat.lt_irrefl _)
theorem Inv.cne (I : Inv X pins σ H s) : ∀ x c, X.env.cells.lookup x = some c → c ≠ X.env.locals := fun x c e z => by
  obtain ⟨v, o, ho, hd⟩ := I.cell x c e
  obtain ⟨m, ⟨o', es, ep, ho', hd', _⟩, _⟩ := I.loc
  rw [z, ho'] at ho; cases ho; rw [hd'] at hd; cases hd
theorem Inv.funs (I : Inv X pins σ H s) : s.heap.FunFrames X.base X.outer := by
  have all : ∀ (l : List Env), (∀ b ∈ frs l, b ∈ X.fs) → X.s₀.heap.FunFrames X.base l → s.heap.FunFrames X.base l := by
    intro l
    induction l with
    | nil => intro _ _; trivial
    | cons env r ih =>
      intro hs hl
      obtain ⟨hk, ⟨L, o, hf, hn, ho, hd⟩, hr⟩ := hl
      have hL : L ∈ X.fs := hs L (by unfold frs; rw [List.filterMap_cons, hf]; exact List.mem_cons_self)
      obtain ⟨sl, e⟩ := I.base.slot L o ho (I.ok.frf L hL) hL fun z => I.ok.exfs L z hL
      exact ⟨hk, ⟨L, _, hf, hn, e, hd⟩, ih (fun b hb => hs b (by unfold frs; rw [List.filterMap_cons, hf]; exact List.mem_cons_of_mem _ hb)) hr⟩
  exact all X.outer (fun _ hb => hb) I.ok.funs

/-- the frames that run, for a call -/
theorem Inv.stack (I : Inv X pins σ H s) : s.heap.FunFrames X.base X.stack := by
  rcases I.ok.stk with e | ⟨e, hf⟩
  · rw [e]; exact I.funs
  · rw [e]
    obtain ⟨m, hn, _⟩ := I.loc
    refine .cons (by rw [I.ok.kind]; decide) hf hn ?_ I.funs
    exact Heap.get?_none_of_le (Nat.le_trans I.ok.bsz I.ok.above)
theorem Inv.stkSub (I : Inv X pins σ H s) : ∀ b ∈ frs X.stack, b ∈ X.env.locals :: X.fs := fun b hb => by
  rcases I.ok.stk with e | ⟨e, hf⟩
  · rw [e] at hb; exact List.mem_cons_of_mem _ hb
  · rw [e] at hb
    unfold frs at hb
    rw [List.filterMap_cons, hf] at hb
    exact hb
theorem Inv.stkFree (I : Inv X pins σ H s) : ∀ b ∈ frs X.stack, H b = none := fun b hb => by
  rcases List.mem_cons.mp (I.stkSub b hb) with e | hb
  · rw [e]; exact I.free
  · obtain ⟨_, o, ho, _⟩ := I.ok.funs.mem hb
    exact I.base.free b o ho (I.ok.frf b hb) fun z => I.ok.exfs b z hb

/-- THE STEP: the untracked objects but the frame and the records at ch are kept (the callers' frames up to slots), the frame's map is kept, the new abstract heap is held -/
theorem Inv.step {g' : Array GenState} {t' : Nat} {d' : Drawn} {ch : List Addr} (I : Inv X pins σ H s)
    (hch : ∀ b ∈ ch, (b ∈ X.ex ∨ X.s₀.heap.objs.size ≤ b) ∧ b ≠ X.env.locals ∧ (∀ x c, X.env.cells.lookup x = some c → c ≠ b) ∧ ∀ p ∈ X.pn ++ pins, p.1 ≠ b)
    (keep : ∀ b o, b ≠ X.env.locals → b ∉ X.fs → b ∉ ch → s.heap.get? b = some o → H b = none → h'.get? b = some o)
    (slot : ∀ b o, b ≠ X.env.locals → b ∈ X.fs → b ∉ ch → s.heap.get? b = some o → H b = none → ∃ sl, h'.get? b = some { o with slots := sl }) (free : ∀ b o, b ∉ ch → s.heap.get? b = some o → H b = none → H' b = none)
    (there : ∀ b o, b ∉ ch → s.heap.get? b = some o → ∃ o', h'.get? b = some o')
    (tups : ∀ b xs, H b = some (.tup xs) → H' b = some (.tup xs)) (frzs : ∀ b o u, H b = some (.frz o u) → H' b = some (.frz o u)) (tbls : ∀ b ps, H b = some (.tbl ps) → ∃ more, H' b = some (.tbl (ps ++ more)))
    (ns : ∀ m, s.heap.Ns X.env.locals m → h'.Ns X.env.locals m) (hok : HOk X.prog X.w H' h') (hg : AllBare g') :
    Inv X pins σ H' { s with heap := h', gens := g', drawn := d', toks := t' } := by
  have neL : ∀ b o, X.s₀.heap.get? b = some o → b ≠ X.env.locals := fun b o e => Nat.ne_of_lt (Nat.lt_of_lt_of_le (Heap.lt_size e) I.ok.above)
  have neC : ∀ b o, X.s₀.heap.get? b = some o → b ∉ X.ex → b ∉ ch := fun b o e hx hb => by
    rcases (hch b hb).1 with z | z
    · exact hx z
    · exact absurd (Nat.lt_of_lt_of_le (Heap.lt_size e) z) (Nat.lt_irrefl _)
  have cellK : ∀ x c, X.env.cells.lookup x = some c → ∀ v, s.heap.IsCell c v → h'.IsCell c v := fun x c e v ⟨o, ho, hd⟩ => by
    have nch : c ∉ ch := fun z => (hch c z).2.2.1 x c e rfl
    by_cases hc : c ∈ X.fs
    · obtain ⟨sl, q⟩ := slot c o (I.cne x c e) hc nch ho (I.freeC x c e)
      exact ⟨_, q, hd⟩
    · exact ⟨o, keep c o (I.cne x c e) hc nch ho (I.freeC x c e), hd⟩
  refine ⟨I.ok, I.os, hg, ⟨fun b o e n hb hx => ?_, fun b o e n hb hx => ?_, fun b o e n hx => ?_, fun b o e hx => ?_, fun b xs e => tups b xs (I.base.tups b xs e), fun b o xs e => frzs b o xs (I.base.frzs b o xs e), fun b ps e => ?_⟩, ?_, fun x c e => ?_, ?_, fun x c e => ?_, fun p hp => ?_, hok, I.len⟩
  · exact keep b o (neL b o e) hb (neC b o e hx) (I.base.keep b o e n hb hx) (I.base.free b o e n hx)
  · obtain ⟨sl, e1⟩ := I.base.slot b o e n hb hx
    obtain ⟨sl', e2⟩ := slot b _ (neL b o e) hb (neC b o e hx) e1 (I.base.free b o e n hx)
    exact ⟨sl', e2⟩
  · obtain ⟨o', e1⟩ := I.base.there b o e hx
    exact free b o' (neC b o e hx) e1 (I.base.free b o e n hx)
  · obtain ⟨o', e1⟩ := I.base.there b o e hx
    exact there b o' (neC b o e hx) e1
  · obtain ⟨m1, e1⟩ := I.base.tbls b ps e
    obtain ⟨m2, e2⟩ := tbls b _ e1
    exact ⟨m1 ++ m2, by rw [e2, Array.append_assoc]⟩
  · obtain ⟨m, hn, hl⟩ := I.loc
    refine ⟨m, ns m hn, fun i x v e1 e2 e3 => ?_⟩
    obtain ⟨u, r, l⟩ := hl i x v e1 e2 e3
    refine ⟨u, r, ?_⟩
    rcases l with l | ⟨k, c, e, z⟩
    · exact .inl l
    · exact .inr ⟨k, c, e, cellK x c e _ z⟩
  · obtain ⟨v, z⟩ := I.cell x c e
    exact ⟨v, cellK x c e v z⟩
  · obtain ⟨m, ⟨o, _, _, ho, _⟩, _⟩ := I.loc
    exact free _ o (fun z => (hch _ z).2.1 rfl) ho I.free
  · obtain ⟨v, o, ho, hd⟩ := I.cell x c e
    exact free c o (fun z => (hch c z).2.2.1 x c e rfl) ho (I.freeC x c e)
  · obtain ⟨e, n, ne, nf, d⟩ := I.pin p hp
    have nch : p.1 ∉ ch := fun z => (hch p.1 z).2.2.2 p hp rfl
    exact ⟨keep p.1 p.2 ne nf nch e n, free p.1 p.2 nch e n, ne, nf, d⟩
/-- .. where the frame's own object is kept too -/
theorem Inv.un {t' : Nat} (I : Inv X pins σ H s) (u : Un X.fs [] H H' s.heap h') (hok : HOk X.prog X.w H' h') : Inv X pins σ H' { s with heap := h', toks := t' } := by
  obtain ⟨m, ⟨o, es, ep, ho, r⟩, _⟩ := id I.loc
  obtain ⟨sl, hL⟩ := u.any ho I.free (by simp)
  exact I.step (g' := s.gens) (d' := s.drawn) (ch := []) (fun _ z => nomatch z) (fun b o _ hb _ e n => u.keep b o e n hb (by simp)) (fun b o _ hb _ e n => u.slot b o e n hb (by simp)) (fun b o _ e n => u.free b o e n (by simp)) (fun b o _ e => u.there b o e (by simp)) u.tups u.frzs u.tbls (fun m' hm => by
    obtain ⟨o', es', ep', ho', r'⟩ := hm
    rw [ho] at ho'; cases ho'
    exact ⟨_, es', ep', hL, r'⟩) hok I.bare
/-- behind a call (or a comprehension's block): the slots of this frame may have changed too, the records at ch may have turned -/
theorem Inv.call {g' : Array GenState} {t' : Nat} {d' : Drawn} {ch : List Addr} (I : Inv X pins σ H s) (u : Un (frs X.stack) ch H H' s.heap h') (hok : HOk X.prog X.w H' h') (hg : AllBare g')
    (hch : ∀ b ∈ ch, (b ∈ X.ex ∨ X.s₀.heap.objs.size ≤ b) ∧ b ≠ X.env.locals ∧ (∀ x c, X.env.cells.lookup x = some c → c ≠ b) ∧ ∀ p ∈ X.pn ++ pins, p.1 ≠ b) :
    Inv X pins σ H' { s with heap := h', gens := g', drawn := d', toks := t' } := by
  obtain ⟨m, ⟨o, es, ep, ho, r⟩, _⟩ := id I.loc
  obtain ⟨sl, hL⟩ := u.any ho I.free fun z => (hch _ z).2.1 rfl
  exact I.step (ch := ch) hch (fun b o hL hb hc e n => u.keep b o e n (fun z => (List.mem_cons.mp (I.stkSub b z)).elim hL hb) hc) (fun b o _ _ hc e n => u.any e n hc) (fun b o hc e n => u.free b o e n hc) (fun b o hc e => u.there b o e hc) u.tups u.frzs u.tbls (fun m' hm => by
    obtain ⟨o', es', ep', ho', r'⟩ := hm
    rw [ho] at ho'; cases ho'
    exact ⟨_, es', ep', hL, r'⟩) hok hg
/-- an untracked record of ours (an iterator) has turned -/
theorem Inv.turned {t' : Nat} {it : Addr} (I : Inv X pins σ H s) (k : ∀ b o, b ≠ it → s.heap.get? b = some o → h'.get? b = some o) (hn : H it = none) (hL : it ≠ X.env.locals)
    (h1 : it ∈ X.ex ∨ X.s₀.heap.objs.size ≤ it) (h2 : ∀ x c, X.env.cells.lookup x = some c → c ≠ it) (h3 : ∀ p ∈ X.pn ++ pins, p.1 ≠ it) : Inv X pins σ H { s with heap := h', toks := t' } := by
  have nit : ∀ b u, H b = some u → b ≠ it := fun b u e z => by rw [z, hn] at e; cases e
  refine I.step (g' := s.gens) (d' := s.drawn) (ch := [it]) (fun b hb => ?_) (fun b o _ _ hc e _ => k b o (fun z => hc (by simp [z])) e) (fun b o _ _ hc e _ => ⟨o.slots, k b o (fun z => hc (by simp [z])) e⟩) (fun _ _ _ _ n => n)
    (fun b o hc e => ⟨o, k b o (fun z => hc (by simp [z])) e⟩) (fun _ _ e => e) (fun _ _ _ e => e) (fun b ps e => ⟨#[], by rw [e]; simp⟩) (fun m hm => ?_) (fun b u e => ?_) I.bare
  · have e : b = it := by simpa using hb
    subst e
    exact ⟨h1, hL, h2, h3⟩
  · obtain ⟨o, es, ep, ho, r⟩ := hm
    exact ⟨o, es, ep, k _ o (Ne.symm hL) ho, r⟩
  · refine (I.hok b u e).stay (fun c v hc q => k c v ?_ q) (fun _ q => q) fun _ _ q => q
    rcases hc with z | z
    · rw [z]; exact nit b u e
    · exact nit c _ z
theorem Inv.tok (I : Inv X pins σ H s) (t : Nat) : Inv X pins σ H { s with toks := t } := I.un (h' := s.heap) (t' := t) Un.refl I.hok
/-- all objects kept -/
theorem Inv.kept {t' : Nat} (I : Inv X pins σ H s) (k : ∀ b u, s.heap.get? b = some u → h'.get? b = some u) : Inv X pins σ H { s with heap := h', toks := t' } := I.un (Un.kept k) (I.hok.kept k)
/-- a new object laid and tracked -/
theorem Inv.laid {a : Addr} {o : HO} {t' : Nat} (I : Inv X pins σ H s) (k : ∀ b u, s.heap.get? b = some u → h'.get? b = some u) (hp : s.heap.objs.size ≤ a) (new : ObjOk X.prog X.w (upd H a o) h' a o) :
    Inv X pins σ (upd H a o) { s with heap := h', toks := t' } := I.un (Un.laid k hp (I.hok.fresh hp)) (I.hok.laid k hp new)
/-- an object written -/
theorem Inv.write {x e : Addr} {o : HO} {t' : Nat} (I : Inv X pins σ H s) (mu : Mut (H x)) (he : e = x ∨ H e = some (.own x)) (k : ∀ b u, b ≠ e → s.heap.get? b = some u → h'.get? b = some u) (heo : ∃ u, h'.get? e = some u)
    (new : ObjOk X.prog X.w (upd H x o) h' x o) : Inv X pins σ (upd H x o) { s with heap := h', toks := t' } := I.un (Un.write mu he k heo) (I.hok.write mu he k heo new)
/-- forgetting slots, pins -/
theorem Inv.weak {σ' : List (Option V)} (I : Inv X pins σ H s) (hl : σ'.length = σ.length) (w : ∀ (i : Nat) v, σ'[i]? = some (some v) → σ[i]? = some (some v)) : Inv X pins σ' H s :=
  ⟨I.ok, I.os, I.bare, I.base, let ⟨m, hn, hl'⟩ := I.loc; ⟨m, hn, fun i x v e1 e2 e3 => hl' i x v e1 (w i v e2) e3⟩, I.cell, I.free, I.freeC, I.pin, I.hok, hl.trans I.len⟩
theorem Inv.pins_of {pins' : List (Addr × Obj)} (I : Inv X pins σ H s) (h : ∀ p ∈ pins', s.heap.get? p.1 = some p.2 ∧ H p.1 = none ∧ p.1 ≠ X.env.locals ∧ p.1 ∉ X.fs ∧ ∀ v, p.2.data ≠ .cell v) : Inv X pins' σ H s :=
  ⟨I.ok, I.os, I.bare, I.base, I.loc, I.cell, I.free, I.freeC, fun p hp => (List.mem_append.mp hp).elim (fun z => I.pin p (List.mem_append_left _ z)) (h p), I.hok, I.len⟩

theorem nodup_ix {N : List Str} (hN : N.Nodup) {i j : Nat} {x : Str} (a : N[i]? = some x) (b : N[j]? = some x) : i = j := by
  obtain ⟨h1, e1⟩ := List.getElem?_eq_some_iff.mp a
  obtain ⟨h2, e2⟩ := List.getElem?_eq_some_iff.mp b
  exact (List.getElem_inj hN).mp (e1.trans e2.symm)

/-- a name is stored; what changed -/
theorem store_ok2 {M : Model} {A : Around} {E : Value → Shared → Prop} {i : Nat} {x : Str} {v : V} {u : Value} {Q : Unit → Shared → Prop} (I : Inv X pins σ H s) (hN : X.N.Nodup) (hi : X.N[i]? = some x) (hx : Loc X.env.scope x) (r : RelV v u)
    (h : ∀ s', Inv X pins (σ.set i (some v)) H s' → (∃ a, Heap.SameBut a s.heap s'.heap ∧ (a = X.env.locals ∨ X.env.cells.lookup x = some a)) → Q () s') (hf : X.fn x = true ∨ X.env.scope.names.lookup x = some .local := by first | exact .inl rfl | exact .inr rfl | assumption) : wpAny M A (storeName X.env x u) Q E s := by
  obtain ⟨m, hn, hl⟩ := id I.loc
  have hcls : (X.env.scope.kind == .class || (X.env.scope.kind == .module && X.env.locals != X.env.globals)) = false := by rw [I.ok.kind]; rfl
  have hiσ : i < σ.length := by rw [I.len]; exact (List.getElem?_eq_some_iff.mp hi).1
  have cne := I.cne
  have tracked : ∀ {a : Addr} {h' : Heap}, (∃ o, s.heap.get? a = some o ∧ H a = none) → Heap.SameBut a s.heap h' → HOk X.prog X.w H h' := fun {a h'} ha hs b ob e => by
    obtain ⟨_, _, hfree⟩ := ha
    refine (I.hok b ob e).stay (fun c w' hc q => (hs.2 c ?_).trans q) (fun _ q => q) fun _ _ q => q
    rintro rfl
    rcases hc with rfl | hc
    · rw [hfree] at e; cases e
    · rw [hfree] at hc; cases hc
  rcases hx with hk | hk
  · refine wpAny_storeName_local hk hn (fun h' hn' hs => ?_) hcls
    obtain ⟨oL, _, _, hoL, _⟩ := id hn
    refine h _ ⟨I.ok, I.os, I.bare, ⟨fun b o e n hb hx => ?_, fun b o e n hb hx => ?_, I.base.free, fun b o e hx => ?_, I.base.tups, I.base.frzs, I.base.tbls⟩, ⟨_, hn', fun j y v' e1 e2 e3 => ?_⟩, fun y c e => ?_, I.free, I.freeC, fun p hp => ?_, tracked ⟨oL, hoL, I.free⟩ hs, by simpa using I.len⟩ ⟨_, hs, .inl rfl⟩
    · exact (hs.2 b (Nat.ne_of_lt (Nat.lt_of_lt_of_le (Heap.lt_size e) I.ok.above))).trans (I.base.keep b o e n hb hx)
    · obtain ⟨sl, e1⟩ := I.base.slot b o e n hb hx
      exact ⟨sl, (hs.2 b (Nat.ne_of_lt (Nat.lt_of_lt_of_le (Heap.lt_size e) I.ok.above))).trans e1⟩
    · obtain ⟨o', e1⟩ := I.base.there b o e hx
      exact ⟨o', (hs.2 b (Nat.ne_of_lt (Nat.lt_of_lt_of_le (Heap.lt_size e) I.ok.above))).trans e1⟩
    · by_cases hj : j = i
      · subst hj
        rw [hi] at e1; cases e1
        rw [List.getElem?_set_self hiσ] at e2
        cases e2
        exact ⟨u, r, .inl ⟨hk, by simp⟩⟩
      · rw [List.getElem?_set_ne (Ne.symm hj)] at e2
        obtain ⟨u', r', q⟩ := hl j y v' e1 e2 e3
        refine ⟨u', r', ?_⟩
        rcases q with ⟨k, e⟩ | ⟨k, c, e, z⟩
        · refine .inl ⟨k, ?_⟩
          have : y ≠ x := fun e => hj (nodup_ix hN e1 (e ▸ hi))
          simp [this, e]
        · exact .inr ⟨k, c, e, z.sameBut hs (cne y c e)⟩
    · obtain ⟨w', z⟩ := I.cell y c e
      exact ⟨w', z.sameBut hs (cne y c e)⟩
    · obtain ⟨e, n, ne, nf, d⟩ := I.pin p hp
      exact ⟨(hs.2 p.1 ne).trans e, n, ne, nf, d⟩
  · have hfn : X.fn x = true := by
      rcases hf with z | z
      · exact z
      · rw [z] at hk; cases hk
    obtain ⟨c, hc⟩ := I.ok.has x (.inl hk)
    obtain ⟨w', z⟩ := I.cell x c hc
    refine wpAny_storeName_cell I.ok.kind hk hc z (fun h' hc' hs => ?_)
    obtain ⟨oc, hoc, hocd⟩ := id z
    refine h { s with heap := h' } ⟨I.ok, I.os, I.bare, ⟨fun b o e n hb hx => ?_, fun b o e n hb hx => ?_, I.base.free, fun b o e hx => ?_, I.base.tups, I.base.frzs, I.base.tbls⟩, ⟨m, hn.sameBut hs (Ne.symm (cne x c hc)), fun j y v' e1 e2 e3 => ?_⟩, fun y c' e => ?_, I.free, I.freeC, fun p hp => ?_, tracked ⟨oc, hoc, I.freeC x c hc⟩ hs, by simpa using I.len⟩ ⟨c, hs, .inr hc⟩
    · exact (hs.2 b (Nat.ne_of_lt (Nat.lt_of_lt_of_le (Heap.lt_size e) (I.ok.cab x c hfn hc)))).trans (I.base.keep b o e n hb hx)
    · obtain ⟨sl, e1⟩ := I.base.slot b o e n hb hx
      exact ⟨sl, (hs.2 b (Nat.ne_of_lt (Nat.lt_of_lt_of_le (Heap.lt_size e) (I.ok.cab x c hfn hc)))).trans e1⟩
    · obtain ⟨o', e1⟩ := I.base.there b o e hx
      exact ⟨o', (hs.2 b (Nat.ne_of_lt (Nat.lt_of_lt_of_le (Heap.lt_size e) (I.ok.cab x c hfn hc)))).trans e1⟩
    · by_cases hj : j = i
      · subst hj
        rw [hi] at e1; cases e1
        rw [List.getElem?_set_self hiσ] at e2
        cases e2
        exact ⟨u, r, .inr ⟨.inl hk, c, hc, hc'⟩⟩
      · rw [List.getElem?_set_ne (Ne.symm hj)] at e2
        obtain ⟨u', r', q⟩ := hl j y v' e1 e2 e3
        refine ⟨u', r', ?_⟩
        rcases q with q | ⟨k, c', e, z'⟩
        · exact .inl q
        · refine .inr ⟨k, c', e, z'.sameBut hs ?_⟩
          rintro rfl
          exact hj (nodup_ix hN e1 (I.ok.inj _ _ _ e hc ▸ hi))
    · by_cases hcc : c' = c
      · subst hcc; exact ⟨_, hc'⟩
      · obtain ⟨w2, z2⟩ := I.cell y c' e
        exact ⟨w2, z2.sameBut hs hcc⟩
    · obtain ⟨e, n, ne, nf, d⟩ := I.pin p hp
      refine ⟨(hs.2 p.1 ?_).trans e, n, ne, nf, d⟩
      intro q
      rw [q, hoc] at e
      have q' : oc = p.2 := Option.some.inj e
      exact d w' (by rw [← q']; exact hocd)
theorem store_ok {M : Model} {A : Around} {E : Value → Shared → Prop} {i : Nat} {x : Str} {v : V} {u : Value} {Q : Unit → Shared → Prop} (I : Inv X pins σ H s) (hN : X.N.Nodup) (hi : X.N[i]? = some x) (hx : Loc X.env.scope x) (r : RelV v u)
    (h : ∀ s', Inv X pins (σ.set i (some v)) H s' → Q () s') (hf : X.fn x = true ∨ X.env.scope.names.lookup x = some .local := by first | exact .inl rfl | exact .inr rfl | assumption) : wpAny M A (storeName X.env x u) Q E s :=
  store_ok2 I hN hi hx r (fun s' I' _ => h s' I') hf
/-- behind a call or a block, the state as it is -/
theorem Inv.call' {s' : Shared} {ch : List Addr} (I : Inv X pins σ H s) (ho : s'.os = s.os) (u : Un (frs X.stack) ch H H' s.heap s'.heap) (hok : HOk X.prog X.w H' s'.heap) (hg : AllBare s'.gens)
    (hch : ∀ b ∈ ch, (b ∈ X.ex ∨ X.s₀.heap.objs.size ≤ b) ∧ b ≠ X.env.locals ∧ (∀ x c, X.env.cells.lookup x = some c → c ≠ b) ∧ ∀ p ∈ X.pn ++ pins, p.1 ≠ b) : Inv X pins σ H' s' := by
  obtain ⟨h', g', d', t', o'⟩ := s'
  have e : o' = s.os := ho
  subst e
  exact I.call (g' := g') (t' := t') (d' := d') u hok hg hch
end

/-! ### the judgements -/
/-- an exception: its class, its own dict's address (where it has one), the abstract heap behind it -/
abbrev XK := Value → Option Addr → Hp → Prop
abbrev St := List (Option V)
abbrev VK := V → Hp → Prop
/-- an expression's reading; a test's; an argument list's -/
abbrev TE := St → Hp → VK → Prop
abbrev TT := St → Hp → (Bool → Hp → Prop) → Prop
abbrev TA := St → Hp → (List V → Hp → Prop) → Prop
/-- what is wanted behind a statement -/
structure Ends where
  nx : St → Hp → Prop
  rt : VK
  bk : St → Hp → Prop := fun _ _ => False
  ct : St → Hp → Prop := fun _ _ => False
abbrev TS := Ends → St → Hp → Prop

def EP (X : Cx) (pins : List (Addr × Obj)) (σ : St) (Q : VK) (u : Value) (s' : Shared) : Prop := ∃ v H', Inv X pins σ H' s' ∧ RelV v u ∧ Q v H'
def TP (X : Cx) (pins : List (Addr × Obj)) (σ : St) (Q : Bool → Hp → Prop) (b : Bool) (s' : Shared) : Prop := ∃ H', Inv X pins σ H' s' ∧ Q b H'
def AP (X : Cx) (pins : List (Addr × Obj)) (σ : St) (Q : List V → Hp → Prop) (us : List Value) (s' : Shared) : Prop := ∃ vs H', Inv X pins σ H' s' ∧ Vals vs us ∧ Q vs H'
def SP (X : Cx) (pins : List (Addr × Obj)) (D : Ends) (f : Flow) (s' : Shared) : Prop :=
  match f with
  | .next => ∃ σ' H', Inv X pins σ' H' s' ∧ D.nx σ' H'
  | .brk => ∃ σ' H', Inv X pins σ' H' s' ∧ D.bk σ' H'
  | .cont => ∃ σ' H', Inv X pins σ' H' s' ∧ D.ct σ' H'
  | .ret u => ∃ v σ' H', Inv X pins σ' H' s' ∧ RelV v u ∧ D.rt v H'

def PE (X : Cx) (e : Expr) (t : TE) : Prop :=
  ∀ (pins : List (Addr × Obj)) (s : Shared) (σ : St) (H : Hp) (Q : VK), Inv X pins σ H s → t σ H Q → wpAny (model X.prog X.w) X.A (eval e X.env) (EP X pins σ Q) X.xe s
def PT (X : Cx) (e : Expr) (t : TT) : Prop :=
  ∀ (pins : List (Addr × Obj)) (s : Shared) (σ : St) (H : Hp) (Q : Bool → Hp → Prop), Inv X pins σ H s → t σ H Q → wpAny (model X.prog X.w) X.A (isTrue e X.env (eval e X.env)) (TP X pins σ Q) X.xe s
/-- a test whatever its 'whole' is (and, or) -/
def PW (X : Cx) (e : Expr) (t : TT) : Prop :=
  ∀ (whole : Sem Value) (pins : List (Addr × Obj)) (s : Shared) (σ : St) (H : Hp) (Q : Bool → Hp → Prop), Inv X pins σ H s → t σ H Q → wpAny (model X.prog X.w) X.A (isTrue e X.env whole) (TP X pins σ Q) X.xe s
theorem PW.pt {X : Cx} {e : Expr} {t : TT} (h : PW X e t) : PT X e t := h _
/-- an argument list (no star), from the left -/
def PA (X : Cx) (es : List Expr) (t : TA) : Prop :=
  ∀ (pos : Pos) (pins : List (Addr × Obj)) (s : Shared) (σ : St) (H : Hp) (Q : List V → Hp → Prop), Inv X pins σ H s → t σ H Q → wpAny (model X.prog X.w) X.A (spliced (backTo pos (starEach es X.env))) (AP X pins σ Q) X.xe s
def PS (X : Cx) (st : Stmt) (t : TS) : Prop :=
  ∀ (pins : List (Addr × Obj)) (s : Shared) (σ : St) (H : Hp) (D : Ends), Inv X pins σ H s → t D σ H → wpAny (model X.prog X.w) X.A (exec st X.env) (SP X pins D) X.xe s
def PSs (X : Cx) (st : List Stmt) (t : TS) : Prop :=
  ∀ (pins : List (Addr × Obj)) (s : Shared) (σ : St) (H : Hp) (D : Ends), Inv X pins σ H s → t D σ H → wpAny (model X.prog X.w) X.A (execs st X.env) (SP X pins D) X.xe s
/-- weaken the end -/
theorem thn {α : Type} {t : Sem α} {Q Q' : α → Shared → Prop} {M : Model} {A : Around} {E : Value → Shared → Prop} {s : Shared} (h : wpAny M A t Q E s) (hQ : ∀ a s, Q a s → Q' a s) : wpAny M A t Q' E s := wpAny_mono h hQ fun _ _ x => x
end L2

namespace L2
open PySem PySem.Spec PyProof.Rows
section
variable {X : Cx}

/-- two expressions in a row -/
theorem bin {a b : Expr} {ta tb : TE} (ha : PE X a ta) (hb : PE X b tb) {pins : List (Addr × Obj)} {s : Shared} {σ : St} {H : Hp} {R : V → V → Hp → Prop} (I : Inv X pins σ H s) (h : ta σ H fun x H1 => tb σ H1 fun y H2 => R x y H2)
    {α : Type} {Q : α → Shared → Prop} {f : Value → Value → Sem α}
    (hf : ∀ v u s2 x y H2, Inv X pins σ H2 s2 → RelV x v → RelV y u → R x y H2 → wpAny (model X.prog X.w) X.A (f v u) Q X.xe s2) :
    wpAny (model X.prog X.w) X.A (eval a X.env) (fun v s₁ => wpAny (model X.prog X.w) X.A (eval b X.env) (fun u s₂ => wpAny (model X.prog X.w) X.A (f v u) Q X.xe s₂) X.xe s₁) X.xe s := by
  refine thn (ha pins s σ H _ I h) fun v s1 ⟨x, H1, I1, r1, q1⟩ => ?_
  refine thn (hb pins s1 σ H1 _ I1 q1) fun u s2 ⟨y, H2, I2, r2, q2⟩ => ?_
  exact hf v u s2 x y H2 I2 r1 r2 q2

/-! ### names and constants -/
def tVar (i : Nat) : TE := fun σ H Q => ∃ v, σ[i]? = some (some v) ∧ Q v H
def tC (v : V) : TE := fun _ H Q => Q v H
theorem pe_var {i : Nat} {x : Str} {pos : Pos} (hN : X.N[i]? = some x) (hv : Vis X.env.scope x) (hd : (x == ("__debug__" : Str)) = false := by decide) (hcd : (x == ("__classdict__" : Str)) = false := by decide) : PE X (.Name x pos) (tVar i) := by
  intro pins s σ H Q I h
  obtain ⟨v, e, h⟩ := h
  obtain ⟨m, hn, hl⟩ := I.loc
  obtain ⟨u, r, l⟩ := hl i x v hN e hv
  have fin : EP X pins σ Q u s := ⟨v, H, I, r, h⟩
  rcases l with ⟨hk, hm⟩ | ⟨hk, c, hc, hcell⟩
  · exact wpAny_Name (wpAny_loadName_local I.ok.kind hk hn hm fin) hd
  · rcases hk with hk | hk
    · exact wpAny_Name (wpAny_loadName_cell I.ok.kind hk hc hcell fin) hd
    · exact wpAny_Name (wpAny_loadName_free I.ok.kind hk hc hcell fin hcd) hd
theorem pe_int {i j pos} : PE X (.Constant (.int i) j pos) (tC (.int i)) := fun _ _ _ H _ I h => wpAny_Constant_int ⟨.int i, H, I.tok _, ⟨_, rfl⟩, h⟩
theorem pe_bl {b j pos} : PE X (.Constant (.bool b) j pos) (tC (.bl b)) := fun _ _ _ H _ I h => Constant_bool ⟨.bl b, H, I, rfl, h⟩
theorem pe_non {j pos} : PE X (.Constant .none j pos) (tC .non) := fun _ _ _ H _ I h => Constant_none ⟨.non, H, I, rfl, h⟩
theorem pe_str {x j pos} : PE X (.Constant (.str x) j pos) (tC (.str x)) := fun _ _ _ H _ I h => Calls.Constant_str ⟨.str x, H, I.tok _, ⟨_, rfl⟩, h⟩

/-- a global name of the def -/
def Gl (X : Cx) (x : Str) : Prop := X.env.kindOf x = some .globalImplicit
theorem ld_glob {E : Value → Shared → Prop} {pins : List (Addr × Obj)} {s : Shared} {σ : St} {H : Hp} {x : Str} {u : Value} {pos : Pos} {Q : Value → Shared → Prop} (I : Inv X pins σ H s) (hg : Gl X x) (hm : X.mg x = some u) (h : Q u s)
    (hd : (x == ("__debug__" : Str)) = false := by decide) : wpAny (model X.prog X.w) X.A (eval (.Name x pos) X.env) Q E s :=
  Calls.Name_function_global I.ok.kind hg (Calls.loadGlobal_global (by rw [I.ok.glob]; exact I.mod.glob.keeps I.bk) hm h) hd
theorem ld_blt {E : Value → Shared → Prop} {pins : List (Addr × Obj)} {s : Shared} {σ : St} {H : Hp} {x : Str} {u : Value} {pos : Pos} {Q : Value → Shared → Prop} (I : Inv X pins σ H s) (hg : Gl X x) (hm : X.mg x = none) (hv : bootBuiltins x = some u) (h : Q u s)
    (hn : x ≠ "__name__" := by decide) (hd : (x == ("__debug__" : Str)) = false := by decide) : wpAny (model X.prog X.w) X.A (eval (.Name x pos) X.env) Q E s := by
  obtain ⟨mb, h1, h2⟩ := I.mod.blt
  exact Calls.Name_function_global I.ok.kind hg (Calls.loadGlobal_builtin (by rw [I.ok.glob]; exact I.mod.glob.keeps I.bk) hm (by rw [I.ok.blt]; exact h1.keeps I.bk) ((h2 x hn).trans hv) h) hd
/-- a module's constant, a class, a function, as a value -/
theorem pe_glob {x : Str} {v : V} {u : Value} {pos : Pos} (hg : Gl X x) (hm : X.mg x = some u) (r : RelV v u) (hd : (x == ("__debug__" : Str)) = false := by decide) : PE X (.Name x pos) (tC v) :=
  fun _ _ _ H _ I h => ld_glob I hg hm ⟨v, H, I, r, h⟩ hd
theorem pe_bltn {x : Str} {v : V} {u : Value} {pos : Pos} (hg : Gl X x) (hm : X.mg x = none) (hv : bootBuiltins x = some u) (r : RelV v u) (hn : x ≠ "__name__" := by decide) (hd : (x == ("__debug__" : Str)) = false := by decide) : PE X (.Name x pos) (tC v) :=
  fun _ _ _ H _ I h => ld_blt I hg hm hv ⟨v, H, I, r, h⟩ hn hd

/-! ### arithmetic -/
/-- two ints -/
def t2I (ta tb : TE) (k : Int → Int → Hp → Prop) : St → Hp → Prop := fun σ H => ta σ H fun x H1 => tb σ H1 fun y H2 => ∃ i j, x = .int i ∧ y = .int j ∧ k i j H2
def tAdd (ta tb : TE) : TE := fun σ H Q => t2I ta tb (fun i j H2 => Q (.int (i + j)) H2) σ H
def tSub (ta tb : TE) : TE := fun σ H Q => t2I ta tb (fun i j H2 => Q (.int (i - j)) H2) σ H
/-- the left factor below 2^64 -/
def tMul (ta tb : TE) : TE := fun σ H Q => t2I ta tb (fun i j H2 => (-(2 ^ 64) < i ∧ i < 2 ^ 64) ∧ Q (.int (i * j)) H2) σ H
variable {a b : Expr} {ta tb : TE} {pos : Pos}
theorem pe_add (ha : PE X a ta) (hb : PE X b tb) : PE X (.BinOp a .Add b pos) (tAdd ta tb) := by
  intro pins s σ H Q I h
  refine wpAny_BinOp (bin ha hb I h fun v u s2 x y H2 I2 rx ry q => ?_)
  obtain ⟨i, j, rfl, rfl, q⟩ := q
  obtain ⟨t, rfl⟩ := rx
  obtain ⟨t', rfl⟩ := ry
  exact add_int ⟨.int _, H2, I2.tok _, ⟨_, rfl⟩, q⟩
theorem pe_sub (ha : PE X a ta) (hb : PE X b tb) : PE X (.BinOp a .Sub b pos) (tSub ta tb) := by
  intro pins s σ H Q I h
  refine wpAny_BinOp (bin ha hb I h fun v u s2 x y H2 I2 rx ry q => ?_)
  obtain ⟨i, j, rfl, rfl, q⟩ := q
  obtain ⟨t, rfl⟩ := rx
  obtain ⟨t', rfl⟩ := ry
  exact sub_int ⟨.int _, H2, I2.tok _, ⟨_, rfl⟩, q⟩
theorem pe_mul (ha : PE X a ta) (hb : PE X b tb) : PE X (.BinOp a .Mult b pos) (tMul ta tb) := by
  intro pins s σ H Q I h
  refine wpAny_BinOp (bin ha hb I h fun v u s2 x y H2 I2 rx ry q => ?_)
  obtain ⟨i, j, rfl, rfl, ⟨q1, q2⟩, q⟩ := q
  obtain ⟨t, rfl⟩ := rx
  obtain ⟨t', rfl⟩ := ry
  exact mul_int ⟨.int _, H2, I2.tok _, ⟨_, rfl⟩, q⟩ (.of_left (intBits_le_64 q1 q2))

/-! ### comparisons -/
def PC (X : Cx) (op : CmpOp) (a b : Expr) (t : TE) : Prop :=
  ∀ (pins : List (Addr × Obj)) (s : Shared) (σ : St) (H : Hp) (Q : VK), Inv X pins σ H s → t σ H Q →
    wpAny (model X.prog X.w) X.A (eval a X.env) (fun v s₁ => wpAny (model X.prog X.w) X.A (eval b X.env) (fun u s₂ => wpAny (model X.prog X.w) X.A (compareOp op v u) (EP X pins σ Q) X.xe s₂) X.xe s₁) X.xe s
theorem nobehind (b : Expr) {op : CmpOp} (h : op ≠ .In) (h2 : op ≠ .NotIn) : behindInMarks op b = false := by
  have e1 : (op == CmpOp.In) = false := by cases op <;> first | rfl | exact absurd rfl h
  have e2 : (op == CmpOp.NotIn) = false := by cases op <;> first | rfl | exact absurd rfl h2
  cases b <;> simp [behindInMarks, e1, e2]
def tCmp (p : Int → Int → Bool) (ta tb : TE) : TE := fun σ H Q => t2I ta tb (fun i j H2 => Q (.bl (p i j)) H2) σ H
abbrev tLt : TE → TE → TE := tCmp fun i j => decide (i < j)
abbrev tLe : TE → TE → TE := tCmp fun i j => decide (i ≤ j)
abbrev tGt : TE → TE → TE := tCmp fun i j => decide (j < i)
abbrev tGe : TE → TE → TE := tCmp fun i j => decide (j ≤ i)
abbrev tEqI : TE → TE → TE := tCmp fun i j => decide (i = j)
abbrev tNeI : TE → TE → TE := tCmp fun i j => !decide (i = j)
/-- a comparison of two ints, by its rule -/
theorem pc_int {op : CmpOp} {p : Int → Int → Bool} (ha : PE X a ta) (hb : PE X b tb)
    (rule : ∀ (i j : Int) (t u : Tok) (Q : Value → Shared → Prop) (s : Shared), Q (.bool (p i j)) s → wpAny (model X.prog X.w) X.A (compareOp op (.int i t) (.int j u)) Q X.xe s) : PC X op a b (tCmp p ta tb) := by
  intro pins s σ H Q I h
  refine bin ha hb I h fun v u s2 x y H2 I2 rx ry q => ?_
  obtain ⟨i, j, rfl, rfl, q⟩ := q
  obtain ⟨t, rfl⟩ := rx
  obtain ⟨t', rfl⟩ := ry
  exact rule i j t t' _ s2 ⟨.bl _, H2, I2, rfl, q⟩
theorem pc_lt (ha : PE X a ta) (hb : PE X b tb) : PC X .Lt a b (tLt ta tb) := pc_int ha hb fun _ _ _ _ _ _ h => lt_int h
theorem pc_le (ha : PE X a ta) (hb : PE X b tb) : PC X .LtE a b (tLe ta tb) := pc_int ha hb fun _ _ _ _ _ _ h => le_int h
theorem pc_gt (ha : PE X a ta) (hb : PE X b tb) : PC X .Gt a b (tGt ta tb) := pc_int ha hb fun _ _ _ _ _ _ h => gt_int h
theorem pc_ge (ha : PE X a ta) (hb : PE X b tb) : PC X .GtE a b (tGe ta tb) := pc_int ha hb fun _ _ _ _ _ _ h => ge_int h
theorem pc_eqI (ha : PE X a ta) (hb : PE X b tb) : PC X .Eq a b (tEqI ta tb) := pc_int ha hb fun _ _ _ _ _ _ h => eq_int (by rw [Bool.beq_eq_decide_eq]; exact h)
theorem pc_neI (ha : PE X a ta) (hb : PE X b tb) : PC X .NotEq a b (tNeI ta tb) := pc_int ha hb fun _ _ _ _ _ _ h => ne_int (by rw [bne, Bool.beq_eq_decide_eq]; exact h)
/-- is None -/
def tIsN (ta : TE) : TE := fun σ H Q => ta σ H fun x H1 => Q (.bl (decide (x = .non))) H1
def tNotN (ta : TE) : TE := fun σ H Q => ta σ H fun x H1 => Q (.bl (!decide (x = .non))) H1
theorem RelV.none_iff {x : V} {v : Value} (r : RelV x v) : (v == Value.none) = decide (x = .non) := by
  cases x with
  | non => cases r; rfl
  | bl _ => cases r; rfl
  | int _ => obtain ⟨t, rfl⟩ := r; rfl
  | str _ => obtain ⟨t, rfl⟩ := r; rfl
  | byt _ => obtain ⟨t, rfl⟩ := r; rfl
  | flt _ => obtain ⟨t, rfl⟩ := r; rfl
  | ref _ => cases r; rfl
  | ty _ => cases r; rfl
theorem pc_isN {j pos'} (ha : PE X a ta) : PC X .Is a (.Constant .none j pos') (tIsN ta) := by
  intro pins s σ H Q I h
  refine thn (ha pins s σ H _ I h) fun v s1 ⟨x, H1, I1, r1, q1⟩ => ?_
  exact Constant_none (is_none_gen ⟨.bl _, H1, I1, by rw [r1.none_iff]; rfl, q1⟩)
theorem pc_notN {j pos'} (ha : PE X a ta) : PC X .IsNot a (.Constant .none j pos') (tNotN ta) := by
  intro pins s σ H Q I h
  refine thn (ha pins s σ H _ I h) fun v s1 ⟨x, H1, I1, r1, q1⟩ => ?_
  exact Constant_none (isnot_none_gen ⟨.bl _, H1, I1, by rw [r1.none_iff]; rfl, q1⟩)
/-- a comparison as a value, as a test -/
def tB (t : TE) : TT := fun σ H Q => t σ H fun x H1 => ∃ c, x = .bl c ∧ Q c H1
theorem pe_cmp {op : CmpOp} {t : TE} (h : PC X op a b t) (h1 : behindInMarks op b = false := by first | exact nobehind _ (by decide) (by decide) | rfl) : PE X (.Compare a [op] [b] pos) t := fun pins s σ H Q I hw => wpAny_Compare1 (h pins s σ H Q I hw) h1
theorem pt_cmp {op : CmpOp} {t : TE} (h : PC X op a b t) (h1 : behindInMarks op b = false := by first | exact nobehind _ (by decide) (by decide) | rfl) : PT X (.Compare a [op] [b] pos) (tB t) := by
  intro pins s σ H Q I hw
  refine wpAny_isTrue_Compare1 (thn (h pins s σ H _ I hw) fun v s1 h1 => thn h1 fun u s2 h2 => thn h2 fun c s3 ⟨x, H1, I1, r1, q1⟩ => ?_) h1
  obtain ⟨d, rfl, q⟩ := q1
  cases r1
  exact wpAny_truthy_bool ⟨H1, I1, q⟩
/-- an expression whose value is a bool, as a test -/
theorem pt_val {e : Expr} {t : TE} (h : PE X e t) (he : ∀ whole, isTrue e X.env whole = (do let v ← whole; standAt e.pos; holding [v] (truthy v)) := by intro _; rfl) : PT X e (tB t) := by
  intro pins s σ H Q I hw
  refine isTrue_plain (thn (h pins s σ H _ I hw) fun v s1 ⟨x, H1, I1, r1, q1⟩ => ?_) (he _)
  obtain ⟨d, rfl, q⟩ := q1
  cases r1
  exact wpAny_truthy_bool ⟨H1, I1, q⟩

/-! ### and, or, not -/
variable {tA tB' : TT} {rest : List Expr}
def tAnd (t u : TT) : TT := fun σ H Q => t σ H fun c H1 => if c = true then u σ H1 Q else Q false H1
def tOr (t u : TT) : TT := fun σ H Q => t σ H fun c H1 => if c = true then Q true H1 else u σ H1 Q
def tNot (t : TT) : TT := fun σ H Q => t σ H fun c H1 => Q (!c) H1
theorem pw_and1 (ha : PT X a tA) : PW X (.BoolOp .And [a] pos) tA := by
  intro wh pins s σ H Q I h
  refine isTrue_and (thn (ha pins s σ H Q I h) fun c s1 e => ?_)
  cases c with
  | true => exact isTrue_and_nil e
  | false => exact e
theorem pw_or1 (ha : PT X a tA) : PW X (.BoolOp .Or [a] pos) tA := by
  intro wh pins s σ H Q I h
  refine isTrue_or (thn (ha pins s σ H Q I h) fun c s1 e => ?_)
  cases c with
  | false => exact isTrue_or_nil e
  | true => exact e
theorem pw_and (ha : PT X a tA) (hb : PW X (.BoolOp .And (b :: rest) pos) tB') : PW X (.BoolOp .And (a :: b :: rest) pos) (tAnd tA tB') := by
  intro wh pins s σ H Q I h
  refine isTrue_and (thn (ha pins s σ H _ I h) fun c s1 ⟨H1, I1, q1⟩ => ?_)
  cases c with
  | true => exact hb wh pins s1 σ H1 Q I1 q1
  | false => exact ⟨H1, I1, q1⟩
theorem pw_or (ha : PT X a tA) (hb : PW X (.BoolOp .Or (b :: rest) pos) tB') : PW X (.BoolOp .Or (a :: b :: rest) pos) (tOr tA tB') := by
  intro wh pins s σ H Q I h
  refine isTrue_or (thn (ha pins s σ H _ I h) fun c s1 ⟨H1, I1, q1⟩ => ?_)
  cases c with
  | true => exact ⟨H1, I1, q1⟩
  | false => exact hb wh pins s1 σ H1 Q I1 q1
theorem pt_not (ha : PT X a tA) : PT X (.UnaryOp .Not a pos) (tNot tA) := by
  intro pins s σ H Q I h
  exact isTrue_not (ha pins s σ H (fun c H1 => Q (!c) H1) I h)
/-- .. as values (bools) -/
def tAndV (ta tb : TE) : TE := fun σ H Q => ta σ H fun x H1 => ∃ c, x = .bl c ∧ if c = true then tb σ H1 Q else Q (.bl false) H1
def tOrV (ta tb : TE) : TE := fun σ H Q => ta σ H fun x H1 => ∃ c, x = .bl c ∧ if c = true then Q (.bl true) H1 else tb σ H1 Q
def tNotV (ta : TE) : TE := fun σ H Q => ta σ H fun x H1 => ∃ c, x = .bl c ∧ Q (.bl (!c)) H1
theorem pe_one {op} {t : TE} (h : PE X a t) : PE X (.BoolOp op [a] pos) t := fun pins s σ H Q I hw => BoolOp_one (h pins s σ H Q I hw)
theorem pe_and (ha : PE X a ta) (hb : PE X (.BoolOp .And (b :: rest) pos) tb) : PE X (.BoolOp .And (a :: b :: rest) pos) (tAndV ta tb) := by
  intro pins s σ H Q I h
  refine BoolOp_and (thn (ha pins s σ H _ I h) fun v s1 ⟨x, H1, I1, r1, q1⟩ => ?_)
  obtain ⟨c, rfl, q1⟩ := q1
  cases r1
  refine wpAny_truthy_bool ?_
  cases c with
  | true => exact hb pins s1 σ H1 Q I1 q1
  | false => exact ⟨.bl false, H1, I1, rfl, q1⟩
theorem pe_or (ha : PE X a ta) (hb : PE X (.BoolOp .Or (b :: rest) pos) tb) : PE X (.BoolOp .Or (a :: b :: rest) pos) (tOrV ta tb) := by
  intro pins s σ H Q I h
  refine BoolOp_or (thn (ha pins s σ H _ I h) fun v s1 ⟨x, H1, I1, r1, q1⟩ => ?_)
  obtain ⟨c, rfl, q1⟩ := q1
  cases r1
  refine wpAny_truthy_bool ?_
  cases c with
  | false => exact hb pins s1 σ H1 Q I1 q1
  | true => exact ⟨.bl true, H1, I1, rfl, q1⟩
theorem pe_not (ha : PE X a ta) : PE X (.UnaryOp .Not a pos) (tNotV ta) := by
  intro pins s σ H Q I h
  refine UnaryOp_ (thn (ha pins s σ H _ I h) fun v s1 ⟨x, H1, I1, r1, q1⟩ => ?_)
  obtain ⟨c, rfl, q1⟩ := q1
  cases r1
  exact not_of (wpAny_truthy_bool ⟨.bl (!c), H1, I1, rfl, q1⟩)
/-- a if t else b -/
def tIf (t : TT) (ta tb : TE) : TE := fun σ H Q => t σ H fun c H1 => if c = true then ta σ H1 Q else tb σ H1 Q
theorem pe_ifExp {c : Expr} (hc : PT X c tA) (ha : PE X a ta) (hb : PE X b tb) : PE X (.IfExp c a b pos) (tIf tA ta tb) := by
  intro pins s σ H Q I h
  refine wpAny_IfExp (thn (hc pins s σ H _ I h) fun d s1 ⟨H1, I1, q1⟩ => ?_)
  cases d with
  | true => exact ha pins s1 σ H1 Q I1 q1
  | false => exact hb pins s1 σ H1 Q I1 q1
end
end L2

namespace L2
open PySem PySem.Spec PyProof.Rows

/-! ### a list, a tuple that is read: tracked, frozen, or an object of the module -/
def SqL (K : PySem.W.Frag) (H : Hp) (a : Addr) (xs : List V) : Prop :=
  Rd H a (.lst xs) ∨
    ∃ (o : Obj) (its : Array Value) (n : Nat), K.lookup a = some o ∧ o.cls = .type "list" ∧ o.dict = none ∧ o.data = .seq its n ∧ its.size ≤ sizeLine ∧ Vals xs its.toList
def SqT (K : PySem.W.Frag) (H : Hp) (a : Addr) (xs : List V) : Prop :=
  Rd H a (.tup xs) ∨
    ∃ (o : Obj) (its : Array Value) (n : Nat), K.lookup a = some o ∧ o.cls = .type "tuple" ∧ o.data = .seq its n ∧ its.size ≤ sizeLine ∧ Vals xs its.toList
def absV : Value → Option V
  | .none => some .non
  | .bool b => some (.bl b)
  | .int i _ => some (.int i)
  | .str x _ => some (.str x)
  | .bytes b _ => some (.byt b)
  | .float b _ => some (.flt b)
  | .ref a => some (.ref a)
  | .type n => some (.ty n)
  | _ => none
theorem RelV.abs {x : V} {u : Value} (r : RelV x u) : absV u = some x := by
  cases x with
  | non => cases r; rfl
  | bl _ => cases r; rfl
  | int _ => obtain ⟨t, rfl⟩ := r; rfl
  | str _ => obtain ⟨t, rfl⟩ := r; rfl
  | byt _ => obtain ⟨t, rfl⟩ := r; rfl
  | flt _ => obtain ⟨t, rfl⟩ := r; rfl
  | ref _ => cases r; rfl
  | ty _ => cases r; rfl
theorem RelV.inj {x y : V} {u : Value} (r : RelV x u) (q : RelV y u) : x = y := Option.some.inj (r.abs.symm.trans q.abs)
theorem Vals.inj : ∀ {xs ys : List V} {us : List Value}, Vals xs us → Vals ys us → xs = ys
  | _, _, _, .nil, .nil => rfl
  | _, _, _, .cons r t, .cons r' t' => by rw [r.inj r', Vals.inj t t']
section
variable {X : Cx} {pins : List (Addr × Obj)} {σ : St} {H : Hp} {s : Shared} {a : Addr} {xs ys : List V}
theorem SqL.of {K : PySem.W.Frag} (h : H a = some (.lst xs)) : SqL K H a xs := .inl (.inl h)
theorem SqT.of {K : PySem.W.Frag} (h : H a = some (.tup xs)) : SqT K H a xs := .inl (.inl h)
theorem Inv.list (I : Inv X pins σ H s) (h : SqL X.K H a xs) : ∃ its : List Value, Vals xs its ∧ PlainL s.heap a its.toArray ∧ xs.length ≤ sizeLine := by
  rcases h with h | ⟨o, its, n, hk, hc, hd, hs, hz, r⟩
  · obtain ⟨z, its, n, r, e⟩ := h.ok I.hok
    exact ⟨its, r, ⟨_, n, e, rfl, rfl, rfl⟩, z⟩
  · refine ⟨its.toList, r, ⟨o, n, I.kIn a o hk, hc, hd, by simpa using hs⟩, ?_⟩
    have e := r.length
    simp only [Array.length_toList] at e
    omega
theorem Inv.tuple (I : Inv X pins σ H s) (h : SqT X.K H a xs) : ∃ its : List Value, Vals xs its ∧ IsTup s.heap a its.toArray ∧ xs.length ≤ sizeLine := by
  rcases h with h | ⟨o, its, n, hk, hc, hs, hz, r⟩
  · obtain ⟨⟨z, _⟩, its, r, p⟩ := h.ok I.hok
    exact ⟨its, r, p, z⟩
  · refine ⟨its.toList, r, ⟨o, I.kIn a o hk, hc, n, by simpa using hs⟩, ?_⟩
    have e := r.length
    simp only [Array.length_toList] at e
    omega
theorem Inv.list_inj (I : Inv X pins σ H s) (h : SqL X.K H a xs) (h' : SqL X.K H a ys) : xs = ys := by
  obtain ⟨its, r, ⟨o, n, e, _, _, d⟩, _⟩ := I.list h
  obtain ⟨its', r', ⟨o', n', e', _, _, d'⟩, _⟩ := I.list h'
  rw [e] at e'; cases e'
  rw [d] at d'
  injection d' with d1 _
  have : its = its' := by simpa using congrArg Array.toList d1
  subst this
  exact r.inj r'
theorem Inv.tuple_inj (I : Inv X pins σ H s) (h : SqT X.K H a xs) (h' : SqT X.K H a ys) : xs = ys := by
  obtain ⟨its, r, ⟨o, e, _, n, d⟩, _⟩ := I.tuple h
  obtain ⟨its', r', ⟨o', e', _, n', d'⟩, _⟩ := I.tuple h'
  rw [e] at e'; cases e'
  rw [d] at d'
  injection d' with d1 _
  have : its = its' := by simpa using congrArg Array.toList d1
  subst this
  exact r.inj r'
end

/-! ### another wish about exceptions -/
abbrev Cx.wish (X : Cx) (E : Value → Shared → Prop) : Cx := { X with xe := E }
/-- no exception leaves -/
abbrev Cx.nox (X : Cx) : Cx := X.wish fun _ _ => False
theorem Cx.Ok.wish {X : Cx} (ok : X.Ok) (E : Value → Shared → Prop) : (X.wish E).Ok :=
  ⟨ok.mod, ok.kind, ok.glob, ok.blt, ok.above, ok.inj, ok.has, ok.cab, ok.hd, ok.frames, ok.stk, ok.exf, ok.bs, ok.bsz, ok.noex, ok.exfs, ok.funs, ok.frf⟩
theorem Cx.Ok.unwish {X : Cx} {E : Value → Shared → Prop} (ok : (X.wish E).Ok) : X.Ok :=
  ⟨ok.mod, ok.kind, ok.glob, ok.blt, ok.above, ok.inj, ok.has, ok.cab, ok.hd, ok.frames, ok.stk, ok.exf, ok.bs, ok.bsz, ok.noex, ok.exfs, ok.funs, ok.frf⟩
section
variable {X : Cx} {pins : List (Addr × Obj)} {σ : St} {H : Hp} {s : Shared} {E : Value → Shared → Prop}
theorem Inv.wish (I : Inv X pins σ H s) (E : Value → Shared → Prop) : Inv (X.wish E) pins σ H s := ⟨I.ok.wish E, I.os, I.bare, I.base, I.loc, I.cell, I.free, I.freeC, I.pin, I.hok, I.len⟩
theorem Inv.unwish (I : Inv (X.wish E) pins σ H s) : Inv X pins σ H s := ⟨I.ok.unwish, I.os, I.bare, I.base, I.loc, I.cell, I.free, I.freeC, I.pin, I.hok, I.len⟩
theorem SP.unwish {D : Ends} {f : Flow} {s' : Shared} (h : SP (X.wish E) pins D f s') : SP X pins D f s' := by
  cases f with
  | next => obtain ⟨σ', H', I, q⟩ := h; exact ⟨σ', H', I.unwish, q⟩
  | brk => obtain ⟨σ', H', I, q⟩ := h; exact ⟨σ', H', I.unwish, q⟩
  | cont => obtain ⟨σ', H', I, q⟩ := h; exact ⟨σ', H', I.unwish, q⟩
  | ret u => obtain ⟨v, σ', H', I, r, q⟩ := h; exact ⟨v, σ', H', I.unwish, r, q⟩
theorem PE.nox {e : Expr} {t : TE} (h : PE X.nox e t) : PE X e t := fun pins s σ H Q I hw =>
  wpAny_mono (h pins s σ H Q (I.wish _) hw) (fun _ _ ⟨v, H', I', r, q⟩ => ⟨v, H', I'.unwish, r, q⟩) fun _ _ z => False.elim z
theorem PT.nox {e : Expr} {t : TT} (h : PT X.nox e t) : PT X e t := fun pins s σ H Q I hw =>
  wpAny_mono (h pins s σ H Q (I.wish _) hw) (fun _ _ ⟨H', I', q⟩ => ⟨H', I'.unwish, q⟩) fun _ _ z => False.elim z
theorem PSs.nox {st : List Stmt} {t : TS} (h : PSs X.nox st t) : PSs X st t := fun pins s σ H D I hw =>
  wpAny_mono (h pins s σ H D (I.wish _) hw) (fun _ _ q => q.unwish) fun _ _ z => False.elim z
end

/-! ### blocks and small statements -/
section
variable {X : Cx} {st : Stmt} {rest : List Stmt} {t u : TS} {e : Expr} {te : TE} {pos : Pos}
def tNext : TS := fun D σ H => D.nx σ H
def tSeq (t u : TS) : TS := fun D σ H => t { D with nx := u D } σ H
theorem pss_nil : PSs X [] tNext := fun _ _ σ H _ I h => wpAny_execs_nil ⟨σ, H, I, h⟩
theorem pss_cons (h1 : PS X st t) (h2 : PSs X rest u) : PSs X (st :: rest) (tSeq t u) := by
  intro pins s σ H D I h
  refine wpAny_execs_cons (thn (h1 pins s σ H { D with nx := u D } I h) fun f s1 q => ?_)
  cases f with
  | next =>
    obtain ⟨σ', H', I', q⟩ := q
    exact h2 pins s1 σ' H' D I' q
  | ret v => exact q
  | brk => exact q
  | cont => exact q
theorem pss_one (h1 : PS X st t) : PSs X [st] t := by
  intro pins s σ H D I h
  refine wpAny_execs_cons (thn (h1 pins s σ H D I h) fun f s1 q => ?_)
  cases f with
  | next => exact wpAny_execs_nil q
  | ret v => exact q
  | brk => exact q
  | cont => exact q
def tBreak : TS := fun D σ H => D.bk σ H
def tCont : TS := fun D σ H => D.ct σ H
theorem ps_pass : PS X (.Pass pos) tNext := fun _ _ σ H _ I h => wpAny_Pass ⟨σ, H, I, h⟩
theorem ps_break : PS X (.Break pos) tBreak := fun _ _ σ H _ I h => wpAny_Break ⟨σ, H, I, h⟩
theorem ps_continue : PS X (.Continue pos) tCont := fun _ _ σ H _ I h => wpAny_Continue ⟨σ, H, I, h⟩
/-- in a def's body nothing is shown -/
theorem Inv.quiet {pins : List (Addr × Obj)} {σ : St} {H : Hp} {s : Shared} (I : Inv X pins σ H s) : interactive X.env = false := by simp [interactive, I.ok.kind]
/-- a docstring -/
theorem ps_doc {x j pos pos'} : PS X (.Expr (.Constant (.str x) j pos) pos') tNext := fun _ s σ H _ I h => wpAny_Expr (Calls.Constant_str (show SP X _ _ .next { s with toks := s.toks + 1 } from ⟨σ, H, I.tok _, h⟩)) I.quiet
/-- an expression whose value is dropped -/
def tDrop (te : TE) : TS := fun D σ H => te σ H fun _ H1 => D.nx σ H1
theorem ps_expr (he : PE X e te) (hs : swapsWith e none pos.line X.env = pure false := by rfl) : PS X (.Expr e pos) (tDrop te) := by
  intro pins s σ H D I h
  exact wpAny_Expr_any (thn (he pins s σ H _ I h) fun v s1 ⟨x, H1, I1, r1, q1⟩ => ⟨σ, H1, I1, q1⟩) I.quiet hs
def tRet (te : TE) : TS := fun D σ H => te σ H D.rt
theorem ps_ret (he : PE X e te) : PS X (.Return (some e) pos) (tRet te) := by
  intro pins s σ H D I h
  exact wpAny_Return_some (thn (he pins s σ H _ I h) fun v s1 ⟨x, H1, I1, r1, q1⟩ => ⟨x, σ, H1, I1, r1, q1⟩)
def tRetN : TS := fun D _ H => D.rt .non H
theorem ps_retN : PS X (.Return none pos) tRetN := fun _ _ σ H _ I h => wpAny_Return_none ⟨.non, σ, H, I, rfl, h⟩
def tIfS (c : TT) (t u : TS) : TS := fun D σ H => c σ H fun b H1 => if b = true then t D σ H1 else u D σ H1
theorem ps_if {c : Expr} {a b : List Stmt} {tc : TT} (hc : PT X c tc) (ha : PSs X a t) (hb : PSs X b u) : PS X (.If c a b pos) (tIfS tc t u) := by
  intro pins s σ H D I h
  refine wpAny_If (thn (hc pins s σ H _ I h) fun d s1 ⟨H1, I1, q1⟩ => ?_)
  cases d with
  | true => exact ha pins s1 σ H1 D I1 q1
  | false => exact hb pins s1 σ H1 D I1 q1
/-- code that the proof never comes to -/
def tNever : TS := fun _ _ _ => False
theorem ps_never : PS X st tNever := fun _ _ _ _ _ _ h => h.elim
theorem pss_never {sts : List Stmt} : PSs X sts tNever := fun _ _ _ _ _ _ h => h.elim
end

/-! ### targets -/
abbrev TG := V → St → Hp → (St → Hp → Prop) → Prop
abbrev TGs := List V → St → Hp → (St → Hp → Prop) → Prop
def PG (X : Cx) (target : Expr) (t : TG) : Prop :=
  ∀ (pins : List (Addr × Obj)) (s : Shared) (σ : St) (H : Hp) (v : V) (u : Value) (Q : St → Hp → Prop), Inv X pins σ H s → RelV v u → t v σ H Q →
    wpAny (model X.prog X.w) X.A (assign target X.env u) (fun _ s' => ∃ σ' H', Inv X pins σ' H' s' ∧ Q σ' H') X.xe s
/-- several targets, one after another -/
def PGs (X : Cx) (ts : List Expr) (t : TGs) : Prop :=
  ∀ (pins : List (Addr × Obj)) (s : Shared) (σ : St) (H : Hp) (vs : List V) (us : List Value) (Q : St → Hp → Prop), Inv X pins σ H s → Vals vs us → t vs σ H Q →
    wpAny (model X.prog X.w) X.A (assignInOrder ((assignEach ts X.env).map (·.2)) us) (fun _ s' => ∃ σ' H', Inv X pins σ' H' s' ∧ Q σ' H') X.xe s
/-- o[i] = v, by values -/
abbrev TSet := V → V → V → Hp → (Hp → Prop) → Prop
def PSet (X : Cx) (t : TSet) : Prop :=
  ∀ (pins : List (Addr × Obj)) (s : Shared) (σ : St) (H : Hp) (o i v : V) (ov iv u : Value) (Q : Hp → Prop), Inv X pins σ H s → RelV o ov → RelV i iv → RelV v u → t o i v H Q →
    wpAny (model X.prog X.w) X.A (setItem ov iv u) (fun _ s' => ∃ H', Inv X pins σ H' s' ∧ Q H') X.xe s
/-- a op= b, by values -/
abbrev TIp := V → V → Hp → VK → Prop
def PIp (X : Cx) (op : Operator) (t : TIp) : Prop :=
  ∀ (pins : List (Addr × Obj)) (s : Shared) (σ : St) (H : Hp) (x y : V) (v u : Value) (Q : VK), Inv X pins σ H s → RelV x v → RelV y u → t x y H Q →
    wpAny (model X.prog X.w) X.A (inplaceOp op v u) (EP X pins σ Q) X.xe s
section
variable {X : Cx} {pos : Pos}
def gName (i : Nat) : TG := fun v σ H Q => Q (σ.set i (some v)) H
theorem pg_name {i : Nat} {x : Str} (hN : X.N.Nodup) (hi : X.N[i]? = some x) (hx : Loc X.env.scope x) (hf : X.fn x = true ∨ X.env.scope.names.lookup x = some .local := by first | exact .inl rfl | exact .inr rfl | assumption) : PG X (.Name x pos) (gName i) := by
  intro pins s σ H v u Q I r h
  exact wpAny_assign_Name (store_ok I hN hi hx r (fun s' I' => ⟨_, H, I', h⟩) hf)
def gNil : TGs := fun vs σ H Q => vs = [] ∧ Q σ H
def gCons (t : TG) (u : TGs) : TGs := fun vs σ H Q => ∃ v r, vs = v :: r ∧ t v σ H fun σ' H' => u r σ' H' Q
theorem pgs_nil : PGs X [] gNil := by
  intro pins s σ H vs us Q I r h
  obtain ⟨e, h⟩ := h
  subst e
  cases r
  exact assignInOrder_nil ⟨σ, H, I, h⟩
theorem pgs_cons {e : Expr} {es : List Expr} {t : TG} {u : TGs} (h1 : PG X e t) (h2 : PGs X es u)
    (hs : (assignEach (e :: es) X.env).map (·.2) = assign e X.env :: (assignEach es X.env).map (·.2) := by rfl) : PGs X (e :: es) (gCons t u) := by
  intro pins s σ H vs us Q I r h
  obtain ⟨v, vr, e1, h⟩ := h
  subst e1
  cases r with
  | cons r rr =>
    rw [hs]
    refine assignInOrder_cons (thn (h1 pins s σ H _ _ _ I r h) fun _ s1 ⟨σ1, H1, I1, q1⟩ => ?_)
    exact h2 pins s1 σ1 H1 _ _ Q I1 rr q1
/-- (a, b, ..) = a tuple of that length -/
def gTup (K : PySem.W.Frag) (n : Nat) (t : TGs) : TG := fun v σ H Q => ∃ a xs, v = .ref a ∧ SqT K H a xs ∧ xs.length = n ∧ t xs σ H Q
theorem pg_tup {es : List Expr} {k : Nat} {t : TGs} {n : Nat} (hc : X.calm = true) (h : PGs X es t)
    (hn : (assignEach es X.env).length = n := by rfl) (hst : (assignEach es X.env).findIdx? (·.1) = none := by rfl) : PG X (.Tuple es k pos) (gTup X.K n t) := by
  intro pins s σ H v u Q I r hw
  obtain ⟨a, xs, e1, hq, hl, hw⟩ := hw
  subst e1
  cases r
  obtain ⟨its, rv, ht, hz⟩ := I.tuple hq
  refine assign_Tuple_tuple (I.ok.hd hc) ht (by simp [hn, ← hl, rv.length]) hst fun h' hx => ?_
  have I1 : Inv X pins σ H { s with heap := h' } := I.kept (t' := s.toks) fun b o e => hx b o (Nat.ne_of_lt (Heap.lt_size e)) e
  exact h pins _ σ H xs _ Q I1 (by simpa using rv) hw
/-- o[i] = .. -/
def gSub (to ti : TE) (t : TSet) : TG := fun v σ H Q => to σ H fun o H1 => ti σ H1 fun i H2 => t o i v H2 fun H3 => Q σ H3
theorem pg_sub {o i : Expr} {to ti : TE} {t : TSet} (ho : PE X o to) (hi : PE X i ti) (hs : PSet X t)
    (ha : ∀ v, assign (.Subscript o i pos) X.env v = (do
      let ov ← holding [v] (eval o X.env)
      let iv ← holding [v, ov] (eval i X.env)
      standAt pos
      holding [v, ov, iv] (setItem ov iv v)
      release [v, ov, iv] []) := by intro _; rfl) : PG X (.Subscript o i pos) (gSub to ti t) := by
  intro pins s σ H v u Q I r h
  rw [ha]
  refine wpAny_bind (wpAny_holding (thn (ho pins s σ H _ I h) fun ov s1 ⟨x, H1, I1, r1, q1⟩ => ?_))
  refine wpAny_bind (wpAny_holding (thn (hi pins s1 σ H1 _ I1 q1) fun iv s2 ⟨y, H2, I2, r2, q2⟩ => ?_))
  refine wpAny_bind (wpAny_standAt (wpAny_bind (wpAny_holding (thn (hs pins s2 σ H2 x y v ov iv u _ I2 r1 r2 r q2) fun _ s3 ⟨H3, I3, q3⟩ => ?_))))
  exact wpAny_release ⟨σ, H3, I3, q3⟩
/-- target = value -/
def tAsg (te : TE) (g : TG) : TS := fun D σ H => te σ H fun x H1 => g x σ H1 D.nx
theorem ps_asg {tg e : Expr} {te : TE} {g : TG} (he : PE X e te) (hg : PG X tg g) (hs : swapsWithSole [tg] e pos.line X.env = pure false := by rfl) (hw : swappedStores [tg] e X.env = pure none := by rfl)
    (h1 : (assignEach [tg] X.env).map (·.2) = [assign tg X.env] := by rfl) : PS X (.Assign [tg] e pos) (tAsg te g) := by
  intro pins s σ H D I h
  refine wpAny_Assign_stores (thn (he pins s σ H _ I h) fun v s1 ⟨x, H1, I1, r1, q1⟩ => ?_) hs hw
  rw [h1]
  exact thn (hg pins s1 σ H1 x v _ I1 r1 q1) fun _ s2 q => q
/-- name = value -/
theorem ps_set {i : Nat} {x : Str} {e : Expr} {te : TE} {pos' : Pos} (hN : X.N.Nodup) (hi : X.N[i]? = some x) (hx : Loc X.env.scope x) (he : PE X e te) (hs : swapsWith e (some (.Name x pos')) pos.line X.env = pure false := by rfl) (hf : X.fn x = true ∨ X.env.scope.names.lookup x = some .local := by first | exact .inl rfl | exact .inr rfl | assumption) :
    PS X (.Assign [.Name x pos'] e pos) (tAsg te (gName i)) := by
  intro pins s σ H D I h
  refine wpAny_Assign_Name (thn (he pins s σ H _ I h) fun v s1 ⟨y, H1, I1, r1, q1⟩ => ?_) hs
  exact store_ok I1 hN hi hx r1 (fun s2 I2 => ⟨_, H1, I2, q1⟩) hf
/-- a, b = x, y with plain local names: stored from the right; the pair itself is not tracked (the opening rows as in PyProof/Rows/TupAssign.lean:23) -/
def tPar (i j : Nat) (ta : TA) : TS := fun D σ H => ta σ H fun vs H1 => ∃ v w, vs = [v, w] ∧ D.nx ((σ.set i (some v)).set j (some w)) H1
theorem ps_par {i j : Nat} {x y : Str} {a b : Expr} {ta : TA} {px py pt : Pos} {kt k2 pt2} (hc : X.calm = true) (hN : X.N.Nodup) (hi : X.N[i]? = some x) (hj : X.N[j]? = some y) (hij : i ≠ j)
    (hx : X.env.scope.names.lookup x = some .local) (hy : X.env.scope.names.lookup y = some .local) (ha : PA X [a, b] ta)
    (hw : swappedStores [.Tuple [.Name x px, .Name y py] kt pt] (.Tuple [a, b] k2 pt2) X.env = pure (some [x, y]))
    (hs : swapsWithSole [.Tuple [.Name x px, .Name y py] kt pt] (.Tuple [a, b] k2 pt2) pos.line X.env = pure false := by rfl) :
    PS X (.Assign [.Tuple [.Name x px, .Name y py] kt pt] (.Tuple [a, b] k2 pt2) pos) (tPar i j ta) := by
  intro pins s σ H D I h
  rw [exec_Assign_arm]
  refine wpAny_bind (wpAny_standAt ?_)
  rw [hs]
  refine wpAny_bind (wpAny_pure ?_)
  rw [if_neg (by decide)]
  refine wpAny_bind (Tuple_ (thn (ha _ pins s σ H _ I h) fun us s1 ⟨vs, H1, I1, r1, q1⟩ => ?_))
  obtain ⟨v, w, e1, q1⟩ := q1
  subst e1
  obtain ⟨u1, u2, rfl, rv, rw'⟩ : ∃ u1 u2, us = [u1, u2] ∧ RelV v u1 ∧ RelV w u2 := by
    cases r1 with
    | cons p q =>
      cases q with
      | cons p' q' =>
        cases q'
        exact ⟨_, _, rfl, p, p'⟩
  refine wpAny_newObj_type ?_ (by show 2 ≤ sizeLine; decide)
  have I2 : Inv X pins σ H1 { s1 with heap := s1.heap.push { cls := .type "tuple", data := .seq [u1, u2].toArray } } := I1.kept (t' := s1.toks) fun b o e => Heap.get?_push_of_some _ e
  rw [hw]
  refine wpAny_bind (wpAny_pure ?_)
  show wpAny (model X.prog X.w) X.A (do rule "assign.swapped-stores"; let items ← unpackItems (.ref s1.heap.objs.size) 2 none; assignInOrder [fun v => bindName X.env y v, fun v => bindName X.env x v] items.reverse; pure Flow.next) _ _ _
  refine wpAny_bind (wpAny_rule (wpAny_bind (unpackItems_tuple (items := #[u1, u2]) (I.ok.hd hc) (IsTup.new s1.heap _) fun h' hx' => ?_)))
  have I3 := I2.kept (h' := h') (t' := s1.toks) fun b o e => hx' b o (Nat.ne_of_lt (Heap.lt_size e)) e
  show wpAny _ _ (assignInOrder [fun v => bindName X.env y v, fun v => bindName X.env x v] [u2, u1] >>= fun _ => pure Flow.next) _ _ _
  refine wpAny_bind (assignInOrder_cons (wpAny_bindName (store_ok I3 hN hj (.inl hy) rw' (fun s2 I4 => ?_) (.inr hy))))
  refine assignInOrder_cons (wpAny_bindName (store_ok I4 hN hi (.inl hx) rv (fun s3 I5 => assignInOrder_nil (wpAny_pure ?_)) (.inr hx)))
  rw [List.set_comm _ _ (Ne.symm hij)] at I5
  exact ⟨_, H1, I5, q1⟩
/-- name op= e -/
def tAug (i : Nat) (te : TE) (ti : TIp) : TS := fun D σ H => ∃ x, σ[i]? = some (some x) ∧ te σ H fun y H1 => ti x y H1 fun z H2 => D.nx (σ.set i (some z)) H2
theorem ps_aug {i : Nat} {x : Str} {e : Expr} {te : TE} {op : Operator} {ti : TIp} {pos' : Pos} (hN : X.N.Nodup) (hi : X.N[i]? = some x) (hx : Loc X.env.scope x) (he : PE X e te) (ho : PIp X op ti) (hf : X.fn x = true ∨ X.env.scope.names.lookup x = some .local := by first | exact .inl rfl | exact .inr rfl | assumption) :
    PS X (.AugAssign (.Name x pos') op e pos) (tAug i te ti) := by
  intro pins s σ H D I h
  obtain ⟨v, e1, h⟩ := h
  obtain ⟨m, hn, hl⟩ := I.loc
  have vis : Vis X.env.scope x := by rcases hx with k | k; exact .inl k; exact .inr (.inl k)
  obtain ⟨u, r, l⟩ := hl i x v hi e1 vis
  refine wpAny_AugAssign_Name ?_
  have go : wpAny (model X.prog X.w) X.A (eval e X.env) (fun w s₂ => wpAny (model X.prog X.w) X.A (inplaceOp op u w) (fun r s₃ => wpAny (model X.prog X.w) X.A (storeName X.env x r) (fun _ => SP X pins D .next) X.xe s₃) X.xe s₂) X.xe s := by
    refine thn (he pins s σ H _ I h) fun w s1 ⟨y, H1, I1, r1, q1⟩ => ?_
    refine thn (ho pins s1 σ H1 v y u w _ I1 r r1 q1) fun z s2 ⟨zv, H2, I2, r2, q2⟩ => ?_
    exact store_ok I2 hN hi hx r2 (fun s3 I3 => ⟨_, H2, I3, q2⟩) hf
  rcases l with ⟨hk, hm⟩ | ⟨hk, c, hc, hcell⟩
  · exact wpAny_loadName_local I.ok.kind hk hn hm go
  · rcases hk with hk | hk
    · exact wpAny_loadName_cell I.ok.kind hk hc hcell go
    · rcases hx with k | k
      · have : X.env.scope.names.lookup x = some .free := hk
        rw [k] at this; cases this
      · have : X.env.scope.names.lookup x = some .free := hk
        rw [k] at this; cases this
/-- o[i] op= e -/
def tAugS (to ti te : TE) (tget : V → V → Hp → VK → Prop) (tip : TIp) (tset : TSet) : TS := fun D σ H => to σ H fun o H1 => ti σ H1 fun i H2 => tget o i H2 fun x H3 => te σ H3 fun y H4 => tip x y H4 fun z H5 => tset o i z H5 fun H6 => D.nx σ H6
/-- o[i], by values -/
def PGet (X : Cx) (t : V → V → Hp → VK → Prop) : Prop :=
  ∀ (pins : List (Addr × Obj)) (s : Shared) (σ : St) (H : Hp) (o i : V) (ov iv : Value) (Q : VK), Inv X pins σ H s → RelV o ov → RelV i iv → t o i H Q →
    wpAny (model X.prog X.w) X.A (getItem ov iv) (EP X pins σ Q) X.xe s
theorem ps_augS {o i e : Expr} {to ti te : TE} {tget : V → V → Hp → VK → Prop} {tip : TIp} {tset : TSet} {op : Operator} {tpos : Pos} (ho : PE X o to) (hi : PE X i ti) (hg : PGet X tget) (he : PE X e te) (hp : PIp X op tip) (hs : PSet X tset)
    (ha : ∀ ov iv new, augStore i ov iv new = (do holding [new, ov, iv] (setItem ov iv new); release [new, ov, iv] []; pure .next) := by intros; rfl) : PS X (.AugAssign (.Subscript o i tpos) op e pos) (tAugS to ti te tget tip tset) := by
  intro pins s σ H D I h
  refine wpAny_AugAssign_SubscriptAny (thn (ho pins s σ H _ I h) fun ov s1 ⟨x1, H1, I1, r1, q1⟩ => ?_) ha
  refine thn (hi pins s1 σ H1 _ I1 q1) fun iv s2 ⟨x2, H2, I2, r2, q2⟩ => ?_
  refine thn (hg pins s2 σ H2 x1 x2 ov iv _ I2 r1 r2 q2) fun old s3 ⟨x3, H3, I3, r3, q3⟩ => ?_
  refine thn (he pins s3 σ H3 _ I3 q3) fun v s4 ⟨x4, H4, I4, r4, q4⟩ => ?_
  refine thn (hp pins s4 σ H4 x3 x4 old v _ I4 r3 r4 q4) fun new s5 ⟨x5, H5, I5, r5, q5⟩ => ?_
  exact thn (hs pins s5 σ H5 x1 x2 x5 ov iv new _ I5 r1 r2 r5 q5) fun _ s6 ⟨H6, I6, q6⟩ => ⟨σ, H6, I6, q6⟩
/-- ints -/
def ipI (f : Int → Int → Int) : TIp := fun x y H Q => ∃ i j, x = .int i ∧ y = .int j ∧ Q (.int (f i j)) H
theorem ip_add : PIp X .Add (ipI fun i j => i + j) := by
  intro pins s σ H x y v u Q I r1 r2 h
  obtain ⟨i, j, e1, e2, q⟩ := h
  subst e1; subst e2
  obtain ⟨t, rfl⟩ := r1
  obtain ⟨t', rfl⟩ := r2
  exact iadd_int ⟨.int _, H, I.tok _, ⟨_, rfl⟩, q⟩
theorem ip_sub : PIp X .Sub (ipI fun i j => i - j) := by
  intro pins s σ H x y v u Q I r1 r2 h
  obtain ⟨i, j, e1, e2, q⟩ := h
  subst e1; subst e2
  obtain ⟨t, rfl⟩ := r1
  obtain ⟨t', rfl⟩ := r2
  exact isub_int ⟨.int _, H, I.tok _, ⟨_, rfl⟩, q⟩
end

/-! ### while -/
section
variable {X : Cx} {pos : Pos}
/-- the invariant W with its measure -/
def tWhile (c : TT) (tb : TS) : TS := fun D σ H => ∃ W : Nat → St → Hp → Prop, (∃ m, W m σ H) ∧ ∀ m σ H, W m σ H →
  c σ H fun b H1 => if b = true then ∃ N : St → Hp → Prop, (∀ σ' H', N σ' H' → ∃ m', m' < m ∧ W m' σ' H') ∧ tb { D with nx := N, ct := N, bk := D.nx } σ H1 else D.nx σ H1
theorem ps_while {c : Expr} {body : List Stmt} {tc : TT} {tb : TS} (hp : PassesOwn (model X.prog X.w) X.A X.env X.xe) (hc : PT X c tc) (hb : PSs X body tb) : PS X (.While c body [] pos) (tWhile tc tb) := by
  intro pins s σ H D I h
  obtain ⟨W, ⟨m0, w0⟩, turn⟩ := h
  refine wpAny_While (codeAny_whileLoop (fun n s' => ∃ σ' H', Inv X pins σ' H' s' ∧ W n σ' H') ?_ m0 ⟨σ, H, I, w0⟩)
  rintro n s1 ⟨σ1, H1, I1, w1⟩
  refine wpAny_passesOwn hp (thn (hc pins s1 σ1 H1 _ I1 (turn n σ1 H1 w1)) fun b s2 ⟨H2, I2, q2⟩ => ?_)
  cases b with
  | true =>
    obtain ⟨N, hN, q2⟩ := q2
    rw [if_pos rfl]
    refine wpAny_passesOwn hp (thn (hb pins s2 σ1 H2 _ I2 q2) fun f s3 q3 => ?_)
    cases f with
    | next =>
      obtain ⟨σ3, H3, I3, n3⟩ := q3
      obtain ⟨m', hm, w3⟩ := hN σ3 H3 n3
      exact ⟨m', hm, σ3, H3, I3, w3⟩
    | cont =>
      obtain ⟨σ3, H3, I3, n3⟩ := q3
      obtain ⟨m', hm, w3⟩ := hN σ3 H3 n3
      exact ⟨m', hm, σ3, H3, I3, w3⟩
    | brk => exact q3
    | ret v => exact q3
  | false =>
    rw [if_neg Bool.false_ne_true]
    exact wpAny_execs_nil ⟨σ1, H2, I2, q2⟩
end

/-! ### what a loop or a comprehension walks -/
/-- at turn i: it yields x (the heap may grow), or it stops -/
structure It where
  go : Nat → Hp → Prop
  yld : Nat → Hp → V → Hp → Prop
  stop : Nat → Hp → Prop
/-- the iterator's own objects may turn: they are not the frame's, not pinned, younger than the entry (or a comprehension's own) -/
def FpOk (X : Cx) (pins : List (Addr × Obj)) (H : Hp) (b : Addr) : Prop :=
  H b = none ∧ b ≠ X.env.locals ∧ b ∉ X.fs ∧ (b ∈ X.ex ∨ X.s₀.heap.objs.size ≤ b) ∧ (∀ x c, X.env.cells.lookup x = some c → c ≠ b) ∧ ∀ p ∈ X.pn ++ pins, p.1 ≠ b
theorem Inv.fpOk {X : Cx} {pins : List (Addr × Obj)} {σ : St} {H H' : Hp} {s : Shared} {b : Addr} (I : Inv X pins σ H s) (hb : s.heap.objs.size ≤ b) (hn : H' b = none) : FpOk X pins H' b := by
  refine ⟨hn, Nat.ne_of_gt (Nat.lt_of_lt_of_le I.lt hb), I.nofs hb, .inr (Nat.le_trans I.sz hb), fun x c e z => ?_, fun p hp z => ?_⟩
  · obtain ⟨v, q⟩ := I.cell x c e
    exact absurd (Nat.lt_of_lt_of_le q.lt (by rw [z]; exact hb)) (Nat.lt_irrefl _)
  · exact absurd (Nat.lt_of_lt_of_le (Heap.lt_size (I.pin p hp).1) (by rw [z]; exact hb)) (Nat.lt_irrefl _)
structure Turn (P : Program) (w : World) (K : PySem.W.Frag) (tg : Expr) (J : It) (fp : List Addr) (it : Addr) (tn : Nat → Heap → Prop) : Prop where
  mem : it ∈ fp
  obj : ∀ i h, tn i h → ∀ b ∈ fp, ∃ o, h.get? b = some o ∧ ∀ v, o.data ≠ .cell v
  keep : ∀ i h h', tn i h → (∀ b ∈ fp, ∀ o, h.get? b = some o → h'.get? b = some o) → tn i h'
  item : ∀ (X : Cx), X.prog = P → X.w = w → X.K = K → X.calm = true → ∀ (i : Nat) (pins : List (Addr × Obj)) (s : Shared) (σ : St) (H : Hp) (E : Value → Shared → Prop), Inv X pins σ H s → (∀ b ∈ fp, FpOk X pins H b) → tn i s.heap → J.go i H →
    wpAny (model P w) X.A (pyNext (.ref it)) (fun r s1 => ∃ u, r = some u ∧
      wpAny (model P w) X.A (letOwnedTupleGo tg (.ref it) u) (fun _ s2 => ∃ x H', Inv X pins σ H' s2 ∧ RelV x u ∧ J.yld i H x H' ∧ tn (i + 1) s2.heap ∧ ∀ b ∈ fp, H' b = none) E s1) E s
  done : ∀ (X : Cx), X.prog = P → X.w = w → X.K = K → X.calm = true → ∀ (i : Nat) (pins : List (Addr × Obj)) (s : Shared) (σ : St) (H : Hp) (E : Value → Shared → Prop), Inv X pins σ H s → (∀ b ∈ fp, FpOk X pins H b) → tn i s.heap → J.stop i H →
    wpAny (model P w) X.A (pyNext (.ref it)) (fun r s1 => r = none ∧ Inv X pins σ H s1) E s
  self : ∀ (A : Around) (i : Nat) (s : Shared) (Q : Value → Shared → Prop) (E : Value → Shared → Prop), tn i s.heap → Q (.ref it) s → wpAny (model P w) A (pyIter (.ref it)) Q E s
abbrev TI := St → Hp → (It → Hp → Prop) → Prop
/-- an iterator has come -/
def PIE (X : Cx) (pins : List (Addr × Obj)) (σ : St) (tg : Expr) (R : It → Hp → Prop) (itv : Value) (s2 : Shared) : Prop :=
  ∃ (it : Addr) (fp : List Addr) (tn : Nat → Heap → Prop) (J : It) (H' : Hp), itv = .ref it ∧ Inv X pins σ H' s2 ∧ Turn X.prog X.w X.K tg J fp it tn ∧ tn 0 s2.heap ∧ (∀ b ∈ fp, FpOk X pins H' b) ∧ R J H'
def PI (X : Cx) (tg iter : Expr) (wi : TI) : Prop :=
  ∀ (pins : List (Addr × Obj)) (s : Shared) (σ : St) (H : Hp) (R : It → Hp → Prop), Inv X pins σ H s → wi σ H R →
    wpAny (model X.prog X.w) X.A (eval iter X.env) (fun v s1 => wpAny (model X.prog X.w) X.A (pyIter v) (PIE X pins σ tg R) X.xe s1) X.xe s

/-- the step ahead of the store is nothing for an iterator that keeps no tuple -/
theorem go_of {M : Model} {A : Around} {E : Value → Shared → Prop} {s : Shared} {tg : Expr} {it : Addr} {u : Value} {o : Obj} {n : String} {vs : Array Value} {Q : Unit → Shared → Prop} (ho : s.heap.get? it = some o) (hc : o.cls = .type n) (hd : o.data = .fields vs)
    (hn : ["enumerate", "zip", "dict_itemiterator", "dict_reverseitemiterator", "odict_iterator", "itertools.zip_longest", "itertools.pairwise"].contains n = false) (hQ : Q () s) : wpAny M A (letOwnedTupleGo tg (.ref it) u) Q E s := by
  unfold letOwnedTupleGo
  cases tg <;> first
    | exact wpAny_pure hQ
    | (cases u <;> first
        | exact wpAny_pure hQ
        | (refine wpAny_bind (wpAny_load ho ?_)
           rw [hc, hd]
           show wpAny M A (if (["enumerate", "zip", "dict_itemiterator", "dict_reverseitemiterator", "odict_iterator", "itertools.zip_longest", "itertools.pairwise"].contains n && vs[0]? == some (rawInt _)) = true then _ else _) Q E s
           rw [if_neg (by intro h; rw [hn, Bool.false_and] at h; cases h)]
           exact wpAny_pure hQ))

/-- the list at a, as it stands at each turn (a loop may append to it) -/
def Itl (K : PySem.W.Frag) (a : Addr) : It :=
  ⟨fun i H => ∃ xs x, SqL K H a xs ∧ xs[i]? = some x, fun i H x H' => H' = H ∧ ∀ xs, SqL K H a xs → xs[i]? = some x, fun i H => ∃ xs, SqL K H a xs ∧ xs.length ≤ i⟩
def Itt (K : PySem.W.Frag) (a : Addr) : It :=
  ⟨fun i H => ∃ xs x, SqT K H a xs ∧ xs[i]? = some x, fun i H x H' => H' = H ∧ ∀ xs, SqT K H a xs → xs[i]? = some x, fun i H => ∃ xs, SqT K H a xs ∧ xs.length ≤ i⟩
/-- lo, lo + 1, .. (n of them) -/
def Itr (lo : Int) (n : Nat) : It := ⟨fun i _ => i < n, fun i H x H' => H' = H ∧ x = .int (lo + i), fun i _ => n ≤ i⟩
theorem turn_list {P : Program} {w : World} {K : PySem.W.Frag} {tg : Expr} (a it : Addr) : Turn P w K tg (Itl K a) [it] it (fun i h => h.IsListIter it a i) where
  mem := by simp
  obj := fun i h st b hb => by
    have e : b = it := by simpa using hb
    subst e
    obtain ⟨o, e, c, d⟩ := st
    exact ⟨o, e, fun v z => by rw [d] at z; cases z⟩
  keep := fun i h h' st k => st.at fun o e => k it (by simp) o e
  item := by
    intro X hP hw hK hc i pins s σ H E I hf st hg
    subst hP hw hK
    obtain ⟨xs, x, hq, hx⟩ := hg
    obtain ⟨its, rv, p, hz⟩ := I.list hq
    obtain ⟨u, hu, ru⟩ := rv.get hx
    obtain ⟨f0, f1, f2, f3, f4, f5⟩ := hf it (by simp)
    refine wpAny_pyNext_list_item st p.isList (x := u) (by simpa using hu) fun h' st' sb => ?_
    have I1 : Inv X pins σ H { s with heap := h' } := I.turned (t' := s.toks) (fun b o hb e => (sb.2 b hb).trans e) f0 f1 f3 f4 f5
    obtain ⟨o, e, c, d⟩ := id st'
    exact ⟨u, rfl, go_of (s := { s with heap := h' }) e c d (by decide) ⟨x, H, I1, ru, ⟨rfl, fun ys hy => by rw [I.list_inj hy hq]; exact hx⟩, st', fun b hb => (hf b hb).1⟩⟩
  done := by
    intro X hP hw hK hc i pins s σ H E I hf st hg
    subst hP hw hK
    obtain ⟨xs, hq, hx⟩ := hg
    obtain ⟨its, rv, p, hz⟩ := I.list hq
    obtain ⟨f0, f1, f2, f3, f4, f5⟩ := hf it (by simp)
    have hl := rv.length
    exact wpAny_pyNext_list_end (I.ok.hd hc) st p.isList (by simp; omega) fun h' eb => ⟨rfl, I.turned (t' := s.toks) (fun b o hb e => eb b o hb e) f0 f1 f3 f4 f5⟩
  self := fun _ _ _ _ _ st h => wpAny_pyIter_listiter st h
theorem turn_tuple {P : Program} {w : World} {K : PySem.W.Frag} {tg : Expr} (a it : Addr) : Turn P w K tg (Itt K a) [it] it (fun i h => h.IsTupleIter it a i) where
  mem := by simp
  obj := fun i h st b hb => by
    have e : b = it := by simpa using hb
    subst e
    obtain ⟨o, e, c, d⟩ := st
    exact ⟨o, e, fun v z => by rw [d] at z; cases z⟩
  keep := fun i h h' st k => st.at fun o e => k it (by simp) o e
  item := by
    intro X hP hw hK hc i pins s σ H E I hf st hg
    subst hP hw hK
    obtain ⟨xs, x, hq, hx⟩ := hg
    obtain ⟨its, rv, p, hz⟩ := I.tuple hq
    obtain ⟨u, hu, ru⟩ := rv.get hx
    obtain ⟨f0, f1, f2, f3, f4, f5⟩ := hf it (by simp)
    refine wpAny_pyNext_tuple_item st (show s.heap.IsTuple a its.toArray from p) (x := u) (by simpa using hu) fun h' st' sb => ?_
    have I1 : Inv X pins σ H { s with heap := h' } := I.turned (t' := s.toks) (fun b o hb e => (sb.2 b hb).trans e) f0 f1 f3 f4 f5
    obtain ⟨o, e, c, d⟩ := id st'
    exact ⟨u, rfl, go_of (s := { s with heap := h' }) e c d (by decide) ⟨x, H, I1, ru, ⟨rfl, fun ys hy => by rw [I.tuple_inj hy hq]; exact hx⟩, st', fun b hb => (hf b hb).1⟩⟩
  done := by
    intro X hP hw hK hc i pins s σ H E I hf st hg
    subst hP hw hK
    obtain ⟨xs, hq, hx⟩ := hg
    obtain ⟨its, rv, p, hz⟩ := I.tuple hq
    obtain ⟨f0, f1, f2, f3, f4, f5⟩ := hf it (by simp)
    have hl := rv.length
    exact wpAny_pyNext_tuple_end (I.ok.hd hc) st (show s.heap.IsTuple a its.toArray from p) (by simp; omega) fun h' eb => ⟨rfl, I.turned (t' := s.toks) (fun b o hb e => eb b o hb e) f0 f1 f3 f4 f5⟩
  self := fun _ _ _ _ _ st h => wpAny_pyIter_tupleiter st h
theorem turn_range {P : Program} {w : World} {K : PySem.W.Frag} {tg : Expr} (it : Addr) (lo : Int) (n : Nat) : Turn P w K tg (Itr lo n) [it] it (fun i h => IsRangeIter h it (lo + (i : Nat) * 1) ((n : Int) - (i : Nat)) 1) where
  mem := by simp
  obj := fun i h st b hb => by
    have e : b = it := by simpa using hb
    subst e
    exact ⟨_, st, fun v z => by
      have z' : Data.fields _ = Data.cell v := z
      cases z'⟩
  keep := fun i h h' st k => k it (by simp) _ st
  item := by
    intro X hP hw hK hc i pins s σ H E I hf st hg
    subst hP hw hK
    obtain ⟨f0, f1, f2, f3, f4, f5⟩ := hf it (by simp)
    have W := Walks.range (prog := X.prog) (w := X.w) (I.ok.hd hc) it lo 1 n
    refine W.item i s _ _ hg st fun v h' tk hv st' kk => ?_
    obtain ⟨t, rfl⟩ := hv
    have I1 : Inv X pins σ H { s with heap := h', toks := tk } := I.turned (fun b o hb e => kk b o (by simpa using hb) e) f0 f1 f3 f4 f5
    refine ⟨_, rfl, go_of (s := { s with heap := h', toks := tk }) (n := "range_iterator") st' rfl rfl (by decide) ⟨.int (lo + i), H, I1, ⟨t, ?_⟩, ⟨rfl, rfl⟩, st', fun b hb => (hf b hb).1⟩⟩
    rw [Int.mul_one]
  done := by
    intro X hP hw hK hc i pins s σ H E I hf st hg
    subst hP hw hK
    obtain ⟨f0, f1, f2, f3, f4, f5⟩ := hf it (by simp)
    exact wpAny_pyNext_range_end (I.ok.hd hc) st (by have : n ≤ i := hg; omega) fun h' eb => ⟨rfl, I.turned (t' := s.toks) (fun b o hb e => eb b o hb e) f0 f1 f3 f4 f5⟩
  self := fun _ _ _ _ _ st h => wpAny_pyIter_rangeiter st h
end L2

namespace L2
open PySem PySem.Spec PyProof.Rows
section
variable {X : Cx} {tg : Expr}
def iList (K : PySem.W.Frag) (tl : TE) : TI := fun σ H R => tl σ H fun x H1 => ∃ a, x = .ref a ∧ (∃ xs, SqL K H1 a xs) ∧ R (Itl K a) H1
def iTup (K : PySem.W.Frag) (tl : TE) : TI := fun σ H R => tl σ H fun x H1 => ∃ a, x = .ref a ∧ (∃ xs, SqT K H1 a xs) ∧ R (Itt K a) H1
theorem pi_list {l : Expr} {tl : TE} (hl : PE X l tl) : PI X tg l (iList X.K tl) := by
  intro pins s σ H R I h
  refine thn (hl pins s σ H _ I h) fun v s1 ⟨x, H1, I1, r1, q1⟩ => ?_
  obtain ⟨a, e, ⟨xs, hq⟩, q⟩ := q1
  subst e
  cases r1
  obtain ⟨its, rv, p, hz⟩ := I1.list hq
  refine wpAny_pyIter_list p.isList ?_
  refine ⟨s1.heap.objs.size, [s1.heap.objs.size], _, _, H1, rfl, I1.kept (t' := s1.toks) fun b o e => Heap.get?_push_of_some _ e, turn_list a _, ⟨_, Heap.get?_push_size _ rfl, rfl, rfl⟩, fun b hb => ?_, q⟩
  have e : b = s1.heap.objs.size := by simpa using hb
  subst e
  exact I1.fpOk (Nat.le_refl _) (I1.hok.fresh (Nat.le_refl _))
theorem pi_tup {l : Expr} {tl : TE} (hl : PE X l tl) : PI X tg l (iTup X.K tl) := by
  intro pins s σ H R I h
  refine thn (hl pins s σ H _ I h) fun v s1 ⟨x, H1, I1, r1, q1⟩ => ?_
  obtain ⟨a, e, ⟨xs, hq⟩, q⟩ := q1
  subst e
  cases r1
  obtain ⟨its, rv, p, hz⟩ := I1.tuple hq
  refine wpAny_pyIter_tuple (show s1.heap.IsTuple a its.toArray from p) ?_
  refine ⟨s1.heap.objs.size, [s1.heap.objs.size], _, _, H1, rfl, I1.kept (t' := s1.toks) fun b o e => Heap.get?_push_of_some _ e, turn_tuple a _, ⟨_, Heap.get?_push_size _ rfl, rfl, rfl⟩, fun b hb => ?_, q⟩
  have e : b = s1.heap.objs.size := by simpa using hb
  subst e
  exact I1.fpOk (Nat.le_refl _) (I1.hok.fresh (Nat.le_refl _))
/-- a range object just made, walked -/
theorem range_it {pins : List (Addr × Obj)} {σ : St} {H : Hp} {s : Shared} {R : It → Hp → Prop} {E : Value → Shared → Prop} {lo hi : Int} {t u v : Tok} {tk : Nat} (I : Inv X pins σ H s) (h1 : -(2 ^ 62) ≤ lo) (h2 : lo < 2 ^ 62) (h3 : -(2 ^ 62) ≤ hi) (h4 : hi < 2 ^ 62)
    (q : R (Itr lo (hi - lo).toNat) H) : wpAny (model X.prog X.w) X.A (pyIter (.ref s.heap.objs.size)) (PIE X pins σ tg R) E { s with heap := s.heap.push { cls := .type "range", data := .fields #[.int lo t, .int hi u, .int 1 v] }, toks := tk } := by
  refine wpAny_pyIter_range (IsRange.new ..) (small_one h1 h2 h3 h4) ?_
  have I1 : Inv X pins σ H { s with heap := s.heap.push { cls := .type "range", data := .fields #[.int lo t, .int hi u, .int 1 v] }, toks := tk } := I.kept fun b o e => Heap.get?_push_of_some _ e
  refine ⟨(s.heap.push { cls := .type "range", data := .fields #[.int lo t, .int hi u, .int 1 v] }).objs.size, [(s.heap.push { cls := .type "range", data := .fields #[.int lo t, .int hi u, .int 1 v] }).objs.size], _, _, H, rfl,
    I1.kept (t' := tk) fun b o e => Heap.get?_push_of_some _ e, turn_range _ lo (hi - lo).toNat, ?_, fun b hb => ?_, q⟩
  · have e1 : lo + ((0 : Nat) : Int) * 1 = lo := by simp
    have e2 : (((hi - lo).toNat : Nat) : Int) - ((0 : Nat) : Int) = Builtin.Range.rangeSize lo hi 1 := by rw [rangeSize_one]; split <;> omega
    show IsRangeIter _ _ (lo + ((0 : Nat) : Int) * 1) ((((hi - lo).toNat : Nat) : Int) - ((0 : Nat) : Int)) 1
    rw [e1, e2]
    exact Heap.get?_push_size _ rfl
  · have e : b = (s.heap.push { cls := .type "range", data := .fields #[.int lo t, .int hi u, .int 1 v] }).objs.size := by simpa using hb
    subst e
    exact I1.fpOk (Nat.le_refl _) (I1.hok.fresh (Nat.le_refl _))
def iRng1 (ta : TA) : TI := fun σ H R => ta σ H fun vs H1 => ∃ j : Int, vs = [.int j] ∧ -(2 ^ 62) ≤ j ∧ j < 2 ^ 62 ∧ R (Itr 0 j.toNat) H1
def iRng2 (ta : TA) : TI := fun σ H R => ta σ H fun vs H1 => ∃ i j : Int, vs = [.int i, .int j] ∧ (-(2 ^ 62) ≤ i ∧ i < 2 ^ 62 ∧ -(2 ^ 62) ≤ j ∧ j < 2 ^ 62) ∧ R (Itr i (j - i).toNat) H1
theorem pi_range1 {a : Expr} {ta : TA} {p pos : Pos} (hg : Gl X "range") (hm : X.mg "range" = none) (ha : PA X [a] ta) (hs : starEach [a] X.env = [(false, eval a X.env)] := by rfl) : PI X tg (.Call (.Name "range" p) [a] [] pos) (iRng1 ta) := by
  intro pins s σ H R I h
  refine Call_ (ld_blt I hg hm boot_range (PyProof.Rows.callWith_type1 (thn (ha pos pins s σ H _ I h) fun us s1 ⟨vs, H1, I1, r1, q1⟩ => ?_) hs rfl))
  obtain ⟨j, e, q1, q2, q⟩ := q1
  subst e
  cases r1 with
  | cons r rr =>
    cases rr
    obtain ⟨t, rfl⟩ := r
    exact call_range_1 (range_it I1 (by omega) (by omega) q1 q2 (by simpa using q))
theorem pi_range2 {a b : Expr} {ta : TA} {p pos : Pos} (hg : Gl X "range") (hm : X.mg "range" = none) (ha : PA X [a, b] ta) (hs : starEach [a, b] X.env = [(false, eval a X.env), (false, eval b X.env)] := by rfl) (hs2 : starEach [b] X.env = [(false, eval b X.env)] := by rfl) :
    PI X tg (.Call (.Name "range" p) [a, b] [] pos) (iRng2 ta) := by
  intro pins s σ H R I h
  refine Call_ (ld_blt I hg hm boot_range (PyProof.Rows.callWith_type1 (thn (ha pos pins s σ H _ I h) fun us s1 ⟨vs, H1, I1, r1, q1⟩ => ?_) (by rw [hs, hs2]) (by rw [hs2]; rfl)))
  obtain ⟨i, j, e, ⟨q1, q2, q3, q4⟩, q⟩ := q1
  subst e
  cases r1 with
  | cons r rr =>
    cases rr with
    | cons r' rr =>
      cases rr
      obtain ⟨t, rfl⟩ := r
      obtain ⟨t', rfl⟩ := r'
      exact call_range_2 (range_it I1 q1 q2 q3 q4 q)

/-! ### for -/
/-- W: the invariant by the turn and a measure; N: what the body is to reach -/
def tFor (wi : TI) (g : TG) (tb : TS) : TS := fun D σ H => wi σ H fun J H1 => ∃ W : Nat → Nat → St → Hp → Prop, (∃ m, W 0 m σ H1) ∧ ∀ i m σ H, W i m σ H →
  (J.stop i H ∧ D.nx σ H) ∨ (J.go i H ∧ ∃ N : St → Hp → Prop, (∀ σ' H', N σ' H' → ∃ m', m' < m ∧ W (i + 1) m' σ' H') ∧ ∀ x H', J.yld i H x H' → g x σ H' fun σ2 H2 => tb { D with nx := N, ct := N, bk := D.nx } σ2 H2)
/-- the records at fp as they stand -/
def pinsAt (fp : List Addr) (h : Heap) : List (Addr × Obj) := fp.filterMap fun b => (h.get? b).map fun o => (b, o)
theorem mem_pinsAt {fp : List Addr} {h : Heap} {b : Addr} {o : Obj} (hb : b ∈ fp) (e : h.get? b = some o) : (b, o) ∈ pinsAt fp h := List.mem_filterMap.mpr ⟨b, hb, by rw [e]; rfl⟩
theorem of_pinsAt {fp : List Addr} {h : Heap} {p : Addr × Obj} (hp : p ∈ pinsAt fp h) : p.1 ∈ fp ∧ h.get? p.1 = some p.2 := by
  obtain ⟨b, hb, e⟩ := List.mem_filterMap.mp hp
  cases q : h.get? b with
  | none => rw [q] at e; cases e
  | some o =>
    rw [q] at e
    have e' : (b, o) = p := Option.some.inj e
    subst e'
    exact ⟨hb, q⟩
theorem Inv.pinned {pins : List (Addr × Obj)} {σ : St} {H : Hp} {s : Shared} {fp : List Addr} (I : Inv X pins σ H s) (hf : ∀ b ∈ fp, FpOk X pins H b) (ho : ∀ b ∈ fp, ∃ o, s.heap.get? b = some o ∧ ∀ v, o.data ≠ .cell v) : Inv X (pins ++ pinsAt fp s.heap) σ H s :=
  I.pins_of fun p hp => (List.mem_append.mp hp).elim (fun z => I.pin p (List.mem_append_right _ z)) fun z => by
    obtain ⟨hb, e⟩ := of_pinsAt z
    obtain ⟨f0, f1, f2, _⟩ := hf p.1 hb
    obtain ⟨o, e', d⟩ := ho p.1 hb
    rw [e] at e'; cases e'
    exact ⟨e, f0, f1, f2, d⟩
theorem Inv.unpinned {pins pl : List (Addr × Obj)} {σ : St} {H : Hp} {s : Shared} (I : Inv X (pins ++ pl) σ H s) : Inv X pins σ H s := I.pins_of fun p hp => I.pin p (List.mem_append_right _ (List.mem_append_left _ hp))
theorem ps_for {iter : Expr} {body : List Stmt} {wi : TI} {g : TG} {tb : TS} {pos : Pos} (hp : PassesOwn (model X.prog X.w) X.A X.env X.xe) (hc : X.calm = true) (hi : PI X tg iter wi) (hg : PG X tg g) (hb : PSs X body tb)
    (hs : ∀ x, foldedSetIterable iter X.env x = pure x := by intro _; rfl) : PS X (.For tg iter body [] pos) (tFor wi g tb) := by
  intro pins s σ H D I h
  refine wpAny_For (thn (hi pins s σ H _ I h) fun v s1 h1 => thn h1 fun itv s2 h2 => ?_) hs
  obtain ⟨it, fp, tn, J, H2, e, I2, T, st2, f2, W, ⟨m0, w0⟩, turn⟩ := h2
  subst e
  -- what stays true of the iterator's objects through the loop
  have stat : ∀ {H' : Hp}, (∀ b ∈ fp, H' b = none) → ∀ b ∈ fp, FpOk X pins H' b := fun hn b hb => ⟨hn b hb, (f2 b hb).2⟩
  refine codeAny_forLoop_any (fun n s' => ∃ i σ' H', Inv X pins σ' H' s' ∧ tn i s'.heap ∧ (∀ b ∈ fp, H' b = none) ∧ W i n σ' H') ?_ m0 ⟨0, σ, H2, I2, st2, fun b hb => (f2 b hb).1, w0⟩
  rintro n s3 ⟨i, σ3, H3, I3, st3, fr3, w3⟩
  rcases turn i n σ3 H3 w3 with ⟨stop, qn⟩ | ⟨go, N, hN, step⟩
  · refine wpAny_passesOwn hp (thn (T.done X rfl rfl rfl hc i pins s3 σ3 H3 X.xe I3 (stat fr3) st3 stop) fun r s4 ⟨hr, I4⟩ => ?_)
    subst hr
    exact wpAny_execs_nil ⟨σ3, H3, I4, qn⟩
  · refine wpAny_passesOwn hp (thn (T.item X rfl rfl rfl hc i pins s3 σ3 H3 X.xe I3 (stat fr3) st3 go) fun r s4 ⟨u, hr, h4⟩ => ?_)
    subst hr
    refine wpAny_passesOwn hp (thn h4 fun _ s5 ⟨x, H5, I5, r5, y5, st5, fr5⟩ => ?_)
    have I5' := I5.pinned (stat fr5) (T.obj _ _ st5)
    refine wpAny_passesOwn hp (thn (hg _ s5 σ3 H5 x u _ I5' r5 (step x H5 y5)) fun _ s6 ⟨σ6, H6, I6, q6⟩ => ?_)
    refine wpAny_passesOwn hp (thn (hb _ s6 σ6 H6 _ I6 q6) fun f s7 q7 => ?_)
    have again : ∀ {σ7 : St} {H7 : Hp}, Inv X (pins ++ pinsAt fp s5.heap) σ7 H7 s7 → N σ7 H7 → ∃ m, m < n ∧ ∃ i σ' H', Inv X pins σ' H' s7 ∧ tn i s7.heap ∧ (∀ b ∈ fp, H' b = none) ∧ W i m σ' H' := fun {σ7 H7} I7 n7 => by
      obtain ⟨m', hm, w7⟩ := hN σ7 H7 n7
      refine ⟨m', hm, i + 1, σ7, H7, I7.unpinned, T.keep _ _ _ st5 fun b hb o e => (I7.pin (b, o) (List.mem_append_right _ (List.mem_append_right _ (mem_pinsAt hb e)))).1, fun b hb => ?_, w7⟩
      obtain ⟨o, e, d⟩ := T.obj _ _ st5 b hb
      exact (I7.pin (b, o) (List.mem_append_right _ (List.mem_append_right _ (mem_pinsAt hb e)))).2.1
    cases f with
    | next => obtain ⟨σ7, H7, I7, n7⟩ := q7; exact again I7 n7
    | cont => obtain ⟨σ7, H7, I7, n7⟩ := q7; exact again I7 n7
    | brk => obtain ⟨σ7, H7, I7, q7⟩ := q7; exact ⟨σ7, H7, I7.unpinned, q7⟩
    | ret v => obtain ⟨x7, σ7, H7, I7, r7, q7⟩ := q7; exact ⟨x7, σ7, H7, I7.unpinned, r7, q7⟩
end

/-! ### the forms one uses -/
/-- over a list that the body leaves as it is -/
theorem for_list {K : PySem.W.Frag} {a : Addr} {xs : List V} {g : TG} {tb : TS} {D : Ends} {σ : St} {H : Hp} (Pv : Nat → St → Hp → Prop) (h0 : Pv 0 σ H) (hl : ∀ i σ H, i ≤ xs.length → Pv i σ H → SqL K H a xs)
    (hs : ∀ i x σ H, xs[i]? = some x → Pv i σ H → g x σ H fun σ2 H2 => tb { D with nx := Pv (i + 1), ct := Pv (i + 1), bk := D.nx } σ2 H2) (hd : ∀ σ H, Pv xs.length σ H → D.nx σ H) :
    ∃ W : Nat → Nat → St → Hp → Prop, (∃ m, W 0 m σ H) ∧ ∀ i m σ H, W i m σ H →
      ((Itl K a).stop i H ∧ D.nx σ H) ∨ ((Itl K a).go i H ∧ ∃ N : St → Hp → Prop, (∀ σ' H', N σ' H' → ∃ m', m' < m ∧ W (i + 1) m' σ' H') ∧ ∀ x H', (Itl K a).yld i H x H' → g x σ H' fun σ2 H2 => tb { D with nx := N, ct := N, bk := D.nx } σ2 H2) := by
  refine ⟨fun i m σ H => m = xs.length - i ∧ i ≤ xs.length ∧ Pv i σ H, ⟨xs.length, by simp, Nat.zero_le _, h0⟩, ?_⟩
  rintro i m σ H ⟨rfl, hi, p⟩
  have q := hl i σ H hi p
  by_cases hlt : i < xs.length
  · refine .inr ⟨⟨xs, xs[i], q, by simp [hlt]⟩, Pv (i + 1), fun σ' H' p' => ⟨xs.length - (i + 1), by omega, rfl, hlt, p'⟩, fun x H' y => ?_⟩
    obtain ⟨e, y⟩ := y
    subst e
    exact hs i x σ _ (y xs q) p
  · have e : i = xs.length := by omega
    subst e
    exact .inl ⟨⟨xs, q, Nat.le_refl _⟩, hd σ H p⟩
theorem for_tup {K : PySem.W.Frag} {a : Addr} {xs : List V} {g : TG} {tb : TS} {D : Ends} {σ : St} {H : Hp} (Pv : Nat → St → Hp → Prop) (h0 : Pv 0 σ H) (hl : ∀ i σ H, i ≤ xs.length → Pv i σ H → SqT K H a xs)
    (hs : ∀ i x σ H, xs[i]? = some x → Pv i σ H → g x σ H fun σ2 H2 => tb { D with nx := Pv (i + 1), ct := Pv (i + 1), bk := D.nx } σ2 H2) (hd : ∀ σ H, Pv xs.length σ H → D.nx σ H) :
    ∃ W : Nat → Nat → St → Hp → Prop, (∃ m, W 0 m σ H) ∧ ∀ i m σ H, W i m σ H →
      ((Itt K a).stop i H ∧ D.nx σ H) ∨ ((Itt K a).go i H ∧ ∃ N : St → Hp → Prop, (∀ σ' H', N σ' H' → ∃ m', m' < m ∧ W (i + 1) m' σ' H') ∧ ∀ x H', (Itt K a).yld i H x H' → g x σ H' fun σ2 H2 => tb { D with nx := N, ct := N, bk := D.nx } σ2 H2) := by
  refine ⟨fun i m σ H => m = xs.length - i ∧ i ≤ xs.length ∧ Pv i σ H, ⟨xs.length, by simp, Nat.zero_le _, h0⟩, ?_⟩
  rintro i m σ H ⟨rfl, hi, p⟩
  have q := hl i σ H hi p
  by_cases hlt : i < xs.length
  · refine .inr ⟨⟨xs, xs[i], q, by simp [hlt]⟩, Pv (i + 1), fun σ' H' p' => ⟨xs.length - (i + 1), by omega, rfl, hlt, p'⟩, fun x H' y => ?_⟩
    obtain ⟨e, y⟩ := y
    subst e
    exact hs i x σ _ (y xs q) p
  · have e : i = xs.length := by omega
    subst e
    exact .inl ⟨⟨xs, q, Nat.le_refl _⟩, hd σ H p⟩
theorem for_range {lo : Int} {n : Nat} {g : TG} {tb : TS} {D : Ends} {σ : St} {H : Hp} (Pv : Nat → St → Hp → Prop) (h0 : Pv 0 σ H)
    (hs : ∀ i σ H, i < n → Pv i σ H → g (.int (lo + i)) σ H fun σ2 H2 => tb { D with nx := Pv (i + 1), ct := Pv (i + 1), bk := D.nx } σ2 H2) (hd : ∀ σ H, Pv n σ H → D.nx σ H) :
    ∃ W : Nat → Nat → St → Hp → Prop, (∃ m, W 0 m σ H) ∧ ∀ i m σ H, W i m σ H →
      ((Itr lo n).stop i H ∧ D.nx σ H) ∨ ((Itr lo n).go i H ∧ ∃ N : St → Hp → Prop, (∀ σ' H', N σ' H' → ∃ m', m' < m ∧ W (i + 1) m' σ' H') ∧ ∀ x H', (Itr lo n).yld i H x H' → g x σ H' fun σ2 H2 => tb { D with nx := N, ct := N, bk := D.nx } σ2 H2) := by
  refine ⟨fun i m σ H => m = n - i ∧ i ≤ n ∧ Pv i σ H, ⟨n, by simp, Nat.zero_le _, h0⟩, ?_⟩
  rintro i m σ H ⟨rfl, hi, p⟩
  by_cases hlt : i < n
  · refine .inr ⟨hlt, Pv (i + 1), fun σ' H' p' => ⟨n - (i + 1), by omega, rfl, hlt, p'⟩, fun x H' y => ?_⟩
    obtain ⟨e, y⟩ := y
    subst e y
    exact hs i σ _ hlt p
  · have e : i = n := by omega
    subst e
    exact .inl ⟨Nat.le_refl _, hd σ H p⟩
/-- while, by a word and a measure of the state -/
theorem while_by {c : TT} {tb : TS} {D : Ends} {σ : St} {H : Hp} (Pv : St → Hp → Prop) (μ : St → Hp → Nat) (h0 : Pv σ H)
    (hs : ∀ σ H, Pv σ H → c σ H fun b H1 => if b = true then tb { D with nx := fun σ' H' => Pv σ' H' ∧ μ σ' H' < μ σ H, ct := fun σ' H' => Pv σ' H' ∧ μ σ' H' < μ σ H, bk := D.nx } σ H1 else D.nx σ H1)
    (mono : ∀ σ H Q Q', (∀ b H1, Q b H1 → Q' b H1) → c σ H Q → c σ H Q') : tWhile c tb D σ H := by
  refine ⟨fun m σ H => m = μ σ H ∧ Pv σ H, ⟨_, rfl, h0⟩, ?_⟩
  rintro m σ H ⟨rfl, p⟩
  refine mono σ H _ _ (fun b H1 q => ?_) (hs σ H p)
  cases b with
  | true => exact ⟨_, fun σ' H' ⟨p', l⟩ => ⟨_, l, rfl, p'⟩, q⟩
  | false => exact q
end L2

namespace L2
open PySem PySem.Spec PyProof.Rows

abbrev R2 := V → V → Hp → VK → Prop
/-- a two-place operation on values: f is binaryOp op, inplaceOp op or compareOp op -/
def OpR (X : Cx) (f : Value → Value → Sem Value) (r : R2) : Prop :=
  ∀ (pins : List (Addr × Obj)) (s : Shared) (σ : St) (H : Hp) (x y : V) (v u : Value) (Q : VK), Inv X pins σ H s → RelV x v → RelV y u → r x y H Q →
    wpAny (model X.prog X.w) X.A (f v u) (EP X pins σ Q) X.xe s
/-- a one-place operation -/
def UnR (X : Cx) (f : Value → Sem Value) (r : V → Hp → VK → Prop) : Prop :=
  ∀ (pins : List (Addr × Obj)) (s : Shared) (σ : St) (H : Hp) (x : V) (v : Value) (Q : VK), Inv X pins σ H s → RelV x v → r x H Q →
    wpAny (model X.prog X.w) X.A (f v) (EP X pins σ Q) X.xe s
/-- a call of a value that is known (a builtin, a type) with values -/
def CallR (X : Cx) (f : Value) (r : List V → Hp → VK → Prop) : Prop :=
  ∀ (pins : List (Addr × Obj)) (s : Shared) (σ : St) (H : Hp) (xs : List V) (us : List Value) (Q : VK), Inv X pins σ H s → Vals xs us → r xs H Q →
    wpAny (model X.prog X.w) X.A (call f us) (EP X pins σ Q) X.xe s
/-- a value's truth -/
def TruR (X : Cx) (r : V → Hp → (Bool → Hp → Prop) → Prop) : Prop :=
  ∀ (pins : List (Addr × Obj)) (s : Shared) (σ : St) (H : Hp) (x : V) (v : Value) (Q : Bool → Hp → Prop), Inv X pins σ H s → RelV x v → r x H Q →
    wpAny (model X.prog X.w) X.A (truthy v) (TP X pins σ Q) X.xe s

def tOp (r : R2) (ta tb : TE) : TE := fun σ H Q => ta σ H fun x H1 => tb σ H1 fun y H2 => r x y H2 Q
def tUn (r : V → Hp → VK → Prop) (ta : TE) : TE := fun σ H Q => ta σ H fun x H1 => r x H1 Q
/-- ints in, under C, and a value out -/
def rI (C : Int → Int → Prop) (g : Int → Int → V) : R2 := fun x y H Q => ∃ i j, x = .int i ∧ y = .int j ∧ C i j ∧ Q (g i j) H
def rI0 (g : Int → Int → V) : R2 := fun x y H Q => ∃ i j, x = .int i ∧ y = .int j ∧ Q (g i j) H
def rU (g : Int → V) : V → Hp → VK → Prop := fun x H Q => ∃ i, x = .int i ∧ Q (g i) H

section
variable {X : Cx} {a b c : Expr} {ta tb tc : TE} {pos : Pos}

theorem binT (ha : PE X a ta) (hb : PE X b tb) {pins : List (Addr × Obj)} {s : Shared} {σ : St} {H : Hp} {R : V → V → Hp → Prop} (I : Inv X pins σ H s)
    (h : ta σ H fun x H1 => tb σ H1 fun y H2 => R x y H2) {Q : Value → Shared → Prop} {f : Value → Value → Sem Value}
    (hf : ∀ v u s2 x y H2, Inv X pins σ H2 s2 → RelV x v → RelV y u → R x y H2 → wpAny (model X.prog X.w) X.A (f v u) Q X.xe s2) :
    wpAny (model X.prog X.w) X.A (eval a X.env) (fun v s₁ => wpAny (model X.prog X.w) X.A (eval b X.env) (fun u s₂ => wpAny (model X.prog X.w) X.A (f v u) Q X.xe s₂) X.xe s₁) X.xe s := by
  refine thn (ha pins s σ H _ I h) fun v s1 ⟨x, H1, I1, r1, q1⟩ => ?_
  refine thn (hb pins s1 σ H1 _ I1 q1) fun u s2 ⟨y, H2, I2, r2, q2⟩ => ?_
  exact hf v u s2 x y H2 I2 r1 r2 q2

theorem pe_op {op : Operator} {r : R2} (ho : OpR X (binaryOp op) r) (ha : PE X a ta) (hb : PE X b tb) : PE X (.BinOp a op b pos) (tOp r ta tb) := by
  intro pins s σ H Q I h
  exact wpAny_BinOp (binT ha hb I h fun v u s2 x y H2 I2 rx ry q => ho pins s2 σ H2 x y v u Q I2 rx ry q)
theorem pe_un {op : UnaryOp} {r : V → Hp → VK → Prop} (ho : UnR X (unaryOp op) r) (ha : PE X a ta) : PE X (.UnaryOp op a pos) (tUn r ta) := by
  intro pins s σ H Q I h
  exact UnaryOp_ (thn (ha pins s σ H _ I h) fun v s1 ⟨x, H1, I1, r1, q1⟩ => ho pins s1 σ H1 x v Q I1 r1 q1)
/-- a op= e at a name: the name's slot i -/
theorem augR {op : Operator} {r : R2} (ho : OpR X (inplaceOp op) r) {pins : List (Addr × Obj)} {s : Shared} {σ : St} {H : Hp} {x y : V} {v u : Value} {Q : VK} (I : Inv X pins σ H s)
    (rx : RelV x v) (ry : RelV y u) (q : r x y H Q) : wpAny (model X.prog X.w) X.A (inplaceOp op v u) (EP X pins σ Q) X.xe s := ho pins s σ H x y v u Q I rx ry q

/-! ### ints -/
theorem opI {f : Value → Value → Sem Value} {C : Int → Int → Prop} {g : Int → Int → Int}
    (rule : ∀ (i j : Int) (t u : Tok) (s : Shared) (Q : Value → Shared → Prop) (E : Value → Shared → Prop), C i j → Q (.int (g i j) s.toks) { s with toks := s.toks + 1 } → wpAny (model X.prog X.w) X.A (f (.int i t) (.int j u)) Q E s) :
    OpR X f (rI C fun i j => .int (g i j)) := by
  intro pins s σ H x y v u Q I rx ry h
  obtain ⟨i, j, rfl, rfl, hc, q⟩ := h
  obtain ⟨t, rfl⟩ := rx
  obtain ⟨t', rfl⟩ := ry
  exact rule i j t t' s _ _ hc ⟨.int (g i j), H, I.tok _, ⟨_, rfl⟩, q⟩
theorem opI0 {f : Value → Value → Sem Value} {g : Int → Int → Int}
    (rule : ∀ (i j : Int) (t u : Tok) (s : Shared) (Q : Value → Shared → Prop) (E : Value → Shared → Prop), Q (.int (g i j) s.toks) { s with toks := s.toks + 1 } → wpAny (model X.prog X.w) X.A (f (.int i t) (.int j u)) Q E s) :
    OpR X f (rI0 fun i j => .int (g i j)) := by
  intro pins s σ H x y v u Q I rx ry h
  obtain ⟨i, j, rfl, rfl, q⟩ := h
  obtain ⟨t, rfl⟩ := rx
  obtain ⟨t', rfl⟩ := ry
  exact rule i j t t' s _ _ ⟨.int (g i j), H, I.tok _, ⟨_, rfl⟩, q⟩
theorem opB0 {f : Value → Value → Sem Value} {g : Int → Int → Bool}
    (rule : ∀ (i j : Int) (t u : Tok) (s : Shared) (Q : Value → Shared → Prop) (E : Value → Shared → Prop), Q (.bool (g i j)) s → wpAny (model X.prog X.w) X.A (f (.int i t) (.int j u)) Q E s) :
    OpR X f (rI0 fun i j => .bl (g i j)) := by
  intro pins s σ H x y v u Q I rx ry h
  obtain ⟨i, j, rfl, rfl, q⟩ := h
  obtain ⟨t, rfl⟩ := rx
  obtain ⟨t', rfl⟩ := ry
  exact rule i j t t' s _ _ ⟨.bl (g i j), H, I, rfl, q⟩

def CDiv (i j : Int) : Prop := 0 < j ∧ j < 1073741824
def CDivN (i j : Int) : Prop := j ≠ 0 ∧ j.natAbs < 1073741824
def CPow (i j : Int) : Prop := 0 ≤ j ∧ j ≤ 1000000 ∧ i.natAbs < 2 ^ 64
def CMul (i j : Int) : Prop := (-(2 ^ 64) < i ∧ i < 2 ^ 64) ∨ (-(2 ^ 64) < j ∧ j < 2 ^ 64)
theorem CMul.ok {i j : Int} (h : CMul i j) : IntMulOk i j := by
  rcases h with ⟨h1, h2⟩ | ⟨h1, h2⟩
  · exact .of_left (intBits_le_64 h1 h2)
  · exact .of_right (intBits_le_64 h1 h2)
theorem two_pow_nn (k : Nat) : (0 : Int) ≤ 2 ^ k := by
  rw [two_pow_cast]
  exact Int.natCast_nonneg _

theorem op_add : OpR X (binaryOp .Add) (rI0 fun i j => .int (i + j)) := opI0 fun _ _ _ _ _ _ _ q => add_int q
theorem op_sub : OpR X (binaryOp .Sub) (rI0 fun i j => .int (i - j)) := opI0 fun _ _ _ _ _ _ _ q => sub_int q
theorem op_mul : OpR X (binaryOp .Mult) (rI CMul fun i j => .int (i * j)) := opI fun _ _ _ _ _ _ _ hc q => mul_int q hc.ok
/-- // by a positive divisor -/
theorem op_fdiv : OpR X (binaryOp .FloorDiv) (rI CDiv fun i j => .int (i / j)) := opI fun i j _ _ _ _ _ hc q => by
  have h1 : (0 : Int) < j := hc.1
  have h2 : j < 1073741824 := hc.2
  exact floordiv_int (by omega) (by rw [Int.fdiv_eq_ediv_of_nonneg i (by omega)]; exact q) (.inl (PyProof.noPylong_small (by omega)))
theorem op_fdivN : OpR X (binaryOp .FloorDiv) (rI CDivN fun i j => .int (i.fdiv j)) := opI fun _ _ _ _ _ _ _ hc q => floordiv_int hc.1 q (.inl (PyProof.noPylong_small hc.2))
/-- % by a positive divisor of any size -/
theorem op_mod : OpR X (binaryOp .Mod) (rI (fun _ j => 0 < j) fun i j => .int (i % j)) := opI fun i j _ _ _ _ _ hc q => by
  have h1 : (0 : Int) < j := hc
  exact mod_int' (by omega) (by rw [Int.fmod_eq_emod_of_nonneg i (by omega)]; exact q)
theorem op_modN : OpR X (binaryOp .Mod) (rI (fun _ j => j ≠ 0) fun i j => .int (i.fmod j)) := opI fun _ _ _ _ _ _ _ hc q => mod_int' hc q
theorem op_pow : OpR X (binaryOp .Pow) (rI CPow fun i j => .int (i ^ j.toNat)) := opI fun _ _ _ _ _ _ _ hc q => pow_int_small hc.1 hc.2.1 hc.2.2 q
theorem op_shl : OpR X (binaryOp .LShift) (rI CPow fun i j => .int (i * 2 ^ j.toNat)) := opI fun _ _ _ _ _ _ _ hc q => lshift_int_small hc.1 hc.2.1 hc.2.2 q
theorem op_shr : OpR X (binaryOp .RShift) (rI (fun _ j => 0 ≤ j) fun i j => .int (i / 2 ^ j.toNat)) := opI fun i j _ _ _ _ _ hc q =>
  rshift_int hc (by rw [Int.fdiv_eq_ediv_of_nonneg i (two_pow_nn _)]; exact q)
theorem op_and : OpR X (binaryOp .BitAnd) (rI0 fun i j => .int (Builtin.bitAnd i j)) := opI0 fun _ _ _ _ _ _ _ q => and_int q
theorem op_or : OpR X (binaryOp .BitOr) (rI0 fun i j => .int (Builtin.bitOr i j)) := opI0 fun _ _ _ _ _ _ _ q => or_int q
theorem op_xor : OpR X (binaryOp .BitXor) (rI0 fun i j => .int (Builtin.bitXor i j)) := opI0 fun _ _ _ _ _ _ _ q => xor_int q

theorem iop_add : OpR X (inplaceOp .Add) (rI0 fun i j => .int (i + j)) := opI0 fun _ _ _ _ _ _ _ q => iadd_int q
theorem iop_sub : OpR X (inplaceOp .Sub) (rI0 fun i j => .int (i - j)) := opI0 fun _ _ _ _ _ _ _ q => isub_int q
theorem iop_mul : OpR X (inplaceOp .Mult) (rI CMul fun i j => .int (i * j)) := opI fun _ _ _ _ _ _ _ hc q => imul_int q hc.ok
theorem iop_fdiv : OpR X (inplaceOp .FloorDiv) (rI CDiv fun i j => .int (i / j)) := opI fun i j _ _ _ _ _ hc q => by
  have h1 : (0 : Int) < j := hc.1
  have h2 : j < 1073741824 := hc.2
  exact ifloordiv_int (by omega) (by rw [Int.fdiv_eq_ediv_of_nonneg i (by omega)]; exact q) (.inl (PyProof.noPylong_small (by omega)))
theorem iop_mod : OpR X (inplaceOp .Mod) (rI (fun _ j => 0 < j) fun i j => .int (i % j)) := opI fun i j _ _ _ _ _ hc q => by
  have h1 : (0 : Int) < j := hc
  exact imod_int (by omega) (by rw [Int.fmod_eq_emod_of_nonneg i (by omega)]; exact q)
theorem iop_shl : OpR X (inplaceOp .LShift) (rI CPow fun i j => .int (i * 2 ^ j.toNat)) := opI fun _ _ _ _ _ _ _ hc q => ilshift_int_small hc.1 hc.2.1 hc.2.2 q
theorem iop_shr : OpR X (inplaceOp .RShift) (rI (fun _ j => 0 ≤ j) fun i j => .int (i / 2 ^ j.toNat)) := opI fun i j _ _ _ _ _ hc q =>
  irshift_int hc (by rw [Int.fdiv_eq_ediv_of_nonneg i (two_pow_nn _)]; exact q)
theorem iop_and : OpR X (inplaceOp .BitAnd) (rI0 fun i j => .int (Builtin.bitAnd i j)) := opI0 fun _ _ _ _ _ _ _ q => iand_int q
theorem iop_or : OpR X (inplaceOp .BitOr) (rI0 fun i j => .int (Builtin.bitOr i j)) := opI0 fun _ _ _ _ _ _ _ q => ior_int q
theorem iop_xor : OpR X (inplaceOp .BitXor) (rI0 fun i j => .int (Builtin.bitXor i j)) := opI0 fun _ _ _ _ _ _ _ q => ixor_int q

theorem unI {f : Value → Sem Value} {g : Int → Int}
    (rule : ∀ (i : Int) (t : Tok) (s : Shared) (Q : Value → Shared → Prop) (E : Value → Shared → Prop), Q (.int (g i) s.toks) { s with toks := s.toks + 1 } → wpAny (model X.prog X.w) X.A (f (.int i t)) Q E s) :
    UnR X f (rU fun i => .int (g i)) := by
  intro pins s σ H x v Q I rx h
  obtain ⟨i, rfl, q⟩ := h
  obtain ⟨t, rfl⟩ := rx
  exact rule i t s _ _ ⟨.int (g i), H, I.tok _, ⟨_, rfl⟩, q⟩
theorem un_neg : UnR X (unaryOp .USub) (rU fun i => .int (-i)) := unI fun _ _ _ _ _ q => neg_int q
theorem un_inv : UnR X (unaryOp .Invert) (rU fun i => .int (Builtin.bitNot i)) := unI fun _ _ _ _ _ q => invert_int q

/-! ### bools among ints: n += (a < b) -/
theorem op_add_ib : OpR X (binaryOp .Add) (fun x y H Q => ∃ i k, x = .int i ∧ y = .bl k ∧ Q (.int (i + b2i k)) H) := by
  intro pins s σ H x y v u Q I rx ry h
  obtain ⟨i, k, rfl, rfl, q⟩ := h
  obtain ⟨t, rfl⟩ := rx
  cases ry
  exact add_int_bool ⟨.int (i + b2i k), H, I.tok _, ⟨_, rfl⟩, q⟩
end

/-! ### comparisons -/
/-- the scalars that == tells apart as data does -/
def scal : V → V → Bool
  | .non, .non => true | .non, .int _ => true | .int _, .non => true | .non, .bl _ => true | .bl _, .non => true | .non, .str _ => true | .str _, .non => true
  | .int _, .int _ => true | .bl _, .bl _ => true | .str _, .str _ => true | .byt _, .byt _ => true
  | .int _, .str _ => true | .str _, .int _ => true | .bl _, .str _ => true | .str _, .bl _ => true
  | _, _ => false
def rEq : R2 := fun x y H Q => scal x y = true ∧ Q (.bl (decide (x = y))) H
def rNe : R2 := fun x y H Q => scal x y = true ∧ Q (.bl (!decide (x = y))) H

theorem dec_int {i j : Int} : decide (V.int i = V.int j) = (i == j) := by
  rw [Bool.eq_iff_iff]
  simp
theorem dec_bl {i j : Bool} : decide (V.bl i = V.bl j) = (i == j) := by
  rw [Bool.eq_iff_iff]
  simp
theorem dec_str {i j : Str} : decide (V.str i = V.str j) = (i == j) := by
  rw [Bool.eq_iff_iff]
  simp
theorem dec_byt {i j : Array UInt8} : decide (V.byt i = V.byt j) = (i.toList == j.toList) := by
  rw [Bool.eq_iff_iff]
  cases i
  cases j
  simp

section
variable {X : Cx} {a b c : Expr} {ta tb tc : TE} {pos : Pos}
theorem fin_bl {pins : List (Addr × Obj)} {σ : St} {H : Hp} {s : Shared} {Q : VK} {k k' : Bool} (I : Inv X pins σ H s) (q : Q (.bl k) H) (e : k = k') : EP X pins σ Q (.bool k') s := by
  subst e
  exact ⟨.bl k, H, I, rfl, q⟩
theorem op_eq : OpR X (compareOp .Eq) rEq := by
  intro pins s σ H x y v u Q I rx ry h
  obtain ⟨hs, q⟩ := h
  cases x with
  | non =>
    cases rx
    cases y with
    | non => cases ry; exact PySem.EqNone.eq_none_none (fin_bl I q (by simp))
    | bl j => cases ry; exact PySem.EqNone.eq_none_bool (fin_bl I q (by simp))
    | int j => obtain ⟨t', rfl⟩ := ry; exact PySem.EqNone.eq_none_int (fin_bl I q (by simp))
    | str j => obtain ⟨t', rfl⟩ := ry; exact PySem.EqNone.eq_none_str (fin_bl I q (by simp))
    | _ => exact absurd (show false = true from hs) Bool.false_ne_true
  | bl i =>
    cases rx
    cases y with
    | non => cases ry; exact PySem.EqNone.eq_bool_none (fin_bl I q (by simp))
    | bl j => cases ry; exact eq_bool (fin_bl I q dec_bl)
    | str j => obtain ⟨t', rfl⟩ := ry; exact PySem.EqMixed.eq_bool_str (fin_bl I q (by simp))
    | _ => exact absurd (show false = true from hs) Bool.false_ne_true
  | int i =>
    obtain ⟨t, rfl⟩ := rx
    cases y with
    | non => cases ry; exact PySem.EqNone.eq_int_none (fin_bl I q (by simp))
    | int j => obtain ⟨t', rfl⟩ := ry; exact eq_int (fin_bl I q dec_int)
    | str j => obtain ⟨t', rfl⟩ := ry; exact PySem.EqMixed.eq_int_str (fin_bl I q (by simp))
    | _ => exact absurd (show false = true from hs) Bool.false_ne_true
  | str i =>
    obtain ⟨t, rfl⟩ := rx
    cases y with
    | non => cases ry; exact PySem.EqNone.eq_str_none (fin_bl I q (by simp))
    | bl j => cases ry; exact PySem.EqMixed.eq_str_bool (fin_bl I q (by simp))
    | int j => obtain ⟨t', rfl⟩ := ry; exact PySem.EqMixed.eq_str_int (fin_bl I q (by simp))
    | str j => obtain ⟨t', rfl⟩ := ry; exact eq_str (fin_bl I q dec_str)
    | _ => exact absurd (show false = true from hs) Bool.false_ne_true
  | byt i =>
    obtain ⟨t, rfl⟩ := rx
    cases y with
    | byt j => obtain ⟨t', rfl⟩ := ry; exact PySem.W.eq_bytes (fin_bl I q dec_byt)
    | _ => exact absurd (show false = true from hs) Bool.false_ne_true
  | _ => cases y <;> exact absurd (show false = true from hs) Bool.false_ne_true
theorem op_ne : OpR X (compareOp .NotEq) rNe := by
  intro pins s σ H x y v u Q I rx ry h
  obtain ⟨hs, q⟩ := h
  cases x with
  | non =>
    cases rx
    cases y with
    | non => cases ry; exact PySem.EqNone.ne_none_none (fin_bl I q (by simp))
    | bl j => cases ry; exact PySem.EqNone.ne_none_bool (fin_bl I q (by simp))
    | int j => obtain ⟨t', rfl⟩ := ry; exact PySem.EqNone.ne_none_int (fin_bl I q (by simp))
    | str j => obtain ⟨t', rfl⟩ := ry; exact PySem.EqNone.ne_none_str (fin_bl I q (by simp))
    | _ => exact absurd (show false = true from hs) Bool.false_ne_true
  | bl i =>
    cases rx
    cases y with
    | non => cases ry; exact PySem.EqNone.ne_bool_none (fin_bl I q (by simp))
    | bl j => cases ry; exact ne_bool (fin_bl I q (congrArg not dec_bl))
    | str j => obtain ⟨t', rfl⟩ := ry; exact PySem.EqMixed.ne_bool_str (fin_bl I q (by simp))
    | _ => exact absurd (show false = true from hs) Bool.false_ne_true
  | int i =>
    obtain ⟨t, rfl⟩ := rx
    cases y with
    | non => cases ry; exact PySem.EqNone.ne_int_none (fin_bl I q (by simp))
    | int j => obtain ⟨t', rfl⟩ := ry; exact ne_int (fin_bl I q (congrArg not dec_int))
    | str j => obtain ⟨t', rfl⟩ := ry; exact PySem.EqMixed.ne_int_str (fin_bl I q (by simp))
    | _ => exact absurd (show false = true from hs) Bool.false_ne_true
  | str i =>
    obtain ⟨t, rfl⟩ := rx
    cases y with
    | non => cases ry; exact PySem.EqNone.ne_str_none (fin_bl I q (by simp))
    | bl j => cases ry; exact PySem.EqMixed.ne_str_bool (fin_bl I q (by simp))
    | int j => obtain ⟨t', rfl⟩ := ry; exact PySem.EqMixed.ne_str_int (fin_bl I q (by simp))
    | str j => obtain ⟨t', rfl⟩ := ry; exact ne_str (fin_bl I q (congrArg not dec_str))
    | _ => exact absurd (show false = true from hs) Bool.false_ne_true
  | byt i =>
    obtain ⟨t, rfl⟩ := rx
    cases y with
    | byt j => obtain ⟨t', rfl⟩ := ry; exact PySem.W.ne_bytes (fin_bl I q (congrArg not dec_byt))
    | _ => exact absurd (show false = true from hs) Bool.false_ne_true
  | _ => cases y <;> exact absurd (show false = true from hs) Bool.false_ne_true

theorem op_lt : OpR X (compareOp .Lt) (rI0 fun i j => .bl (decide (i < j))) := opB0 fun _ _ _ _ _ _ _ q => lt_int q
theorem op_le : OpR X (compareOp .LtE) (rI0 fun i j => .bl (decide (i ≤ j))) := opB0 fun _ _ _ _ _ _ _ q => le_int q
theorem op_gt : OpR X (compareOp .Gt) (rI0 fun i j => .bl (decide (j < i))) := opB0 fun _ _ _ _ _ _ _ q => gt_int q
theorem op_ge : OpR X (compareOp .GtE) (rI0 fun i j => .bl (decide (j ≤ i))) := opB0 fun _ _ _ _ _ _ _ q => ge_int q
theorem op_lt_str : OpR X (compareOp .Lt) (fun x y H Q => ∃ i j, x = .str i ∧ y = .str j ∧ Q (.bl (decide (i.cps.toList < j.cps.toList))) H) := by
  intro pins s σ H x y v u Q I rx ry h
  obtain ⟨i, j, rfl, rfl, q⟩ := h
  obtain ⟨t, rfl⟩ := rx
  obtain ⟨t', rfl⟩ := ry
  exact lt_str (fin_bl I q rfl)
/-- the one string within the other -/
theorem op_in_str : OpR X (compareOp .In) (fun x y H Q => ∃ i j, x = .str i ∧ y = .str j ∧ Q (.bl (!(Builtin.Str.occurrences j i 0 j.length 1).isEmpty)) H) := by
  intro pins s σ H x y v u Q I rx ry h
  obtain ⟨i, j, rfl, rfl, q⟩ := h
  obtain ⟨t, rfl⟩ := rx
  obtain ⟨t', rfl⟩ := ry
  exact in_str (fin_bl I q rfl)

/-- is None, is not None: the right side a value none -/
theorem op_isN : OpR X (compareOp .Is) (fun x y H Q => y = .non ∧ Q (.bl (decide (x = .non))) H) := by
  intro pins s σ H x y v u Q I rx ry h
  obtain ⟨rfl, q⟩ := h
  cases ry
  refine is_none_gen (fin_bl I q ?_)
  cases x <;> first
    | (cases rx; rfl)
    | (obtain ⟨t, rfl⟩ := rx; rfl)
theorem op_notN : OpR X (compareOp .IsNot) (fun x y H Q => y = .non ∧ Q (.bl (!decide (x = .non))) H) := by
  intro pins s σ H x y v u Q I rx ry h
  obtain ⟨rfl, q⟩ := h
  cases ry
  refine isnot_none_gen (fin_bl I q ?_)
  cases x <;> first
    | (cases rx; rfl)
    | (obtain ⟨t, rfl⟩ := rx; rfl)

theorem op_notin_str : OpR X (compareOp .NotIn) (fun x y H Q => ∃ i j, x = .str i ∧ y = .str j ∧ Q (.bl (!(!(Builtin.Str.occurrences j i 0 j.length 1).isEmpty))) H) := by
  intro pins s σ H x y v u Q I rx ry h
  obtain ⟨i, j, rfl, rfl, q⟩ := h
  obtain ⟨t, rfl⟩ := rx
  obtain ⟨t', rfl⟩ := ry
  exact notIn_str (fin_bl I q rfl)
/-- is, is not of two objects that are tracked lists or instances -/
def isObj : HO → Bool
  | .lst _ => true
  | .ins _ _ _ => true
  | _ => false
theorem obj_there {pins : List (Addr × Obj)} {s : Shared} {σ : St} {H : Hp} {a : Addr} {o : HO} (I : Inv X pins σ H s) (h : H a = some o) (p : isObj o = true) : ∃ ob, s.heap.get? a = some ob ∧ ob.cls ≠ .type "tuple" := by
  cases o with
  | lst xs =>
    obtain ⟨_, its, n, _, e⟩ : xs.length ≤ sizeLine ∧ ∃ (its : List Value) (n : Nat), Vals xs its ∧ s.heap.get? a = some { cls := .type "list", data := .seq its.toArray n } := I.hok a _ h
    exact ⟨_, e, (by show Value.type "list" ≠ .type "tuple"; decide +kernel)⟩
  | ins C dx fs =>
    have x := I.hok a _ h
    obtain ⟨_, _, _, e, _⟩ := x
    exact ⟨_, e, (by show Value.ref C ≠ .type "tuple"; exact fun z => by cases z)⟩
  | _ => exact absurd (show false = true from p) Bool.false_ne_true
theorem op_is_ref : OpR X (compareOp .Is) (fun x y H Q => ∃ a b oa ob, x = .ref a ∧ y = .ref b ∧ H a = some oa ∧ isObj oa = true ∧ H b = some ob ∧ isObj ob = true ∧ Q (.bl (decide (a = b))) H) := by
  intro pins s σ H x y v u Q I rx ry h
  obtain ⟨a, b, oa, ob, rfl, rfl, ha, pa, hb, pb, q⟩ := h
  cases rx
  cases ry
  obtain ⟨o1, e1, n1⟩ := obj_there I ha pa
  obtain ⟨o2, e2, _⟩ := obj_there I hb pb
  by_cases z : a = b
  · subst z
    exact wpAny_is_ref_self (fin_bl I q (by simp))
  · exact wpAny_is_ref_other z e1 e2 n1 (fin_bl I q (by simp [z]))
theorem op_isnot_ref : OpR X (compareOp .IsNot) (fun x y H Q => ∃ a b oa ob, x = .ref a ∧ y = .ref b ∧ H a = some oa ∧ isObj oa = true ∧ H b = some ob ∧ isObj ob = true ∧ Q (.bl (!decide (a = b))) H) := by
  intro pins s σ H x y v u Q I rx ry h
  obtain ⟨a, b, oa, ob, rfl, rfl, ha, pa, hb, pb, q⟩ := h
  cases rx
  cases ry
  obtain ⟨o1, e1, n1⟩ := obj_there I ha pa
  obtain ⟨o2, e2, _⟩ := obj_there I hb pb
  by_cases z : a = b
  · subst z
    exact wpAny_isNot_ref_self (fin_bl I q (by simp))
  · exact wpAny_isNot_ref_other z e1 e2 n1 (fin_bl I q (by simp [z]))

/-- two rules for one operation: by cases -/
theorem OpR.or {f : Value → Value → Sem Value} {r r' : R2} (h : OpR X f r) (h' : OpR X f r') : OpR X f (fun x y H Q => r x y H Q ∨ r' x y H Q) := by
  intro pins s σ H x y v u Q I rx ry q
  rcases q with q | q
  · exact h pins s σ H x y v u Q I rx ry q
  · exact h' pins s σ H x y v u Q I rx ry q

theorem nomark (b : Expr) {op : CmpOp} (h : op ≠ .In := by decide) (h2 : op ≠ .NotIn := by decide) : behindInMarks op b = false := by
  have e1 : (op == CmpOp.In) = false := by cases op <;> first | rfl | exact absurd rfl h
  have e2 : (op == CmpOp.NotIn) = false := by cases op <;> first | rfl | exact absurd rfl h2
  cases b <;> simp [behindInMarks, e1, e2]
/-- a comparison as a value; hm: nomark b, or (for in, not in) by with_unfolding_all rfl -/
theorem pe_cmpR {op : CmpOp} {r : R2} (ho : OpR X (compareOp op) r) (ha : PE X a ta) (hb : PE X b tb) (hm : behindInMarks op b = false) : PE X (.Compare a [op] [b] pos) (tOp r ta tb) := by
  intro pins s σ H Q I h
  exact wpAny_Compare1 (binT ha hb I h fun v u s2 x y H2 I2 rx ry q => ho pins s2 σ H2 x y v u Q I2 rx ry q) hm
/-- a reading of a value as a test -/
def tTest (t : TE) : TT := fun σ H Q => t σ H fun x H' => ∃ k, x = .bl k ∧ Q k H'
theorem pt_cmpR {op : CmpOp} {r : R2} (ho : OpR X (compareOp op) r) (ha : PE X a ta) (hb : PE X b tb) (hm : behindInMarks op b = false) : PT X (.Compare a [op] [b] pos) (tTest (tOp r ta tb)) := by
  intro pins s σ H Q I h
  refine wpAny_isTrue_Compare1 (thn (ha pins s σ H _ I h) fun v s1 ⟨x, H1, I1, r1, q1⟩ => thn (hb pins s1 σ H1 _ I1 q1) fun u s2 ⟨y, H2, I2, r2, q2⟩ =>
    thn (ho pins s2 σ H2 x y v u _ I2 r1 r2 q2) fun c s3 ⟨z, H3, I3, r3, k, e, q3⟩ => ?_) hm
  subst e
  cases r3
  exact wpAny_truthy_bool ⟨H3, I3, q3⟩
/-- a op1 b op2 c -/
def tChain (r r' : R2) (ta tb tc : TE) : TE := fun σ H Q => ta σ H fun x H1 => tb σ H1 fun y H2 => r x y H2 fun z H3 => ∃ k, z = .bl k ∧
  (if k = true then tc σ H3 fun w' H4 => r' y w' H4 Q else Q (.bl false) H3)
theorem pe_chain {op op' : CmpOp} {r r' : R2} (ho : OpR X (compareOp op) r) (ho' : OpR X (compareOp op') r') (ha : PE X a ta) (hb : PE X b tb) (hc : PE X c tc)
    (hm : lastMarks [op, op'] [b, c] = false := by with_unfolding_all rfl) : PE X (.Compare a [op, op'] [b, c] pos) (tChain r r' ta tb tc) := by
  intro pins s σ H Q I h
  refine Compare_chain (thn (ha pins s σ H _ I h) fun v s1 ⟨x, H1, I1, r1, q1⟩ => chain_link (thn (hb pins s1 σ H1 _ I1 q1) fun u s2 ⟨y, H2, I2, r2, q2⟩ =>
    thn (ho pins s2 σ H2 x y v u _ I2 r1 r2 q2) fun d s3 ⟨z, H3, I3, r3, k, e, q3⟩ => ?_)) hm
  subst e
  cases r3
  refine wpAny_truthy_bool ?_
  cases k with
  | false => exact ite_ff ⟨.bl false, H3, I3, rfl, q3⟩
  | true => exact ite_tt (chain_last (thn (hc pins s3 σ H3 _ I3 q3) fun w' s4 ⟨z', H4, I4, r4, q4⟩ => ho' pins s4 σ H4 y z' u w' Q I4 r2 r4 q4))
theorem pt_chain {op op' : CmpOp} {r r' : R2} (ho : OpR X (compareOp op) r) (ho' : OpR X (compareOp op') r') (ha : PE X a ta) (hb : PE X b tb) (hc : PE X c tc)
    (hm : lastMarks [op, op'] [b, c] = false := by with_unfolding_all rfl) : PT X (.Compare a [op, op'] [b, c] pos) (tTest (tChain r r' ta tb tc)) := by
  intro pins s σ H Q I h
  refine isTrue_chain (thn (ha pins s σ H _ I h) fun v s1 ⟨x, H1, I1, r1, q1⟩ => test_link (thn (hb pins s1 σ H1 _ I1 q1) fun u s2 ⟨y, H2, I2, r2, q2⟩ =>
    thn (ho pins s2 σ H2 x y v u _ I2 r1 r2 q2) fun d s3 ⟨z, H3, I3, r3, k, e, q3⟩ => ?_)) hm
  subst e
  cases r3
  refine wpAny_truthy_bool ?_
  cases k with
  | false =>
    obtain ⟨k', e', q'⟩ := q3
    cases e'
    exact ite_ff ⟨H3, I3, q'⟩
  | true =>
    refine ite_tt (test_last (thn (hc pins s3 σ H3 _ I3 q3) fun w' s4 ⟨z', H4, I4, r4, q4⟩ => thn (ho' pins s4 σ H4 y z' u w' _ I4 r2 r4 q4) fun d' s5 ⟨z2, H5, I5, r5, k2, e2, q5⟩ => ?_))
    subst e2
    cases r5
    exact wpAny_truthy_bool ⟨H5, I5, q5⟩

/-! ### truth -/
/-- a value's truth by the abstract heap -/
def TruV (K : PySem.W.Frag) (x : V) (H : Hp) (k : Bool) : Prop :=
  match x with
  | .non => k = false
  | .bl b => k = b
  | .int i => k = (i != 0)
  | .str y => y.length ≤ sizeLine ∧ k = ((y.length : Int) != 0)
  | .byt y => y.size ≤ sizeLine ∧ k = ((y.size : Int) != 0)
  | .ref p => (∃ xs, SqL K H p xs ∧ k = !xs.isEmpty) ∨ (∃ xs, SqT K H p xs ∧ k = !xs.isEmpty) ∨ ∃ kvs, H p = some (.dK kvs) ∧ k = !kvs.isEmpty
  | _ => False
theorem isEmpty_kv {κ : Type} {kvs : List (κ × V)} {vs : List (κ × Value)} (r : KV kvs vs) : (!vs.isEmpty) = !kvs.isEmpty := by
  cases r <;> rfl
theorem isEmpty_of {xs : List V} {its : List Value} (r : Vals xs its) : (!its.toArray.isEmpty) = !xs.isEmpty := by
  cases r <;> simp
theorem line63 : (sizeLine : Nat) < 2 ^ 63 := by rw [sizeLine_eq]; decide
theorem tru_ok : TruR X (fun x H Q => ∃ k, TruV X.K x H k ∧ Q k H) := by
  intro pins s σ H x v Q I rx h
  obtain ⟨k, e, q⟩ := h
  have hl := line63
  have hs : sizeLine = 16777216 := sizeLine_eq
  cases x with
  | non =>
    cases rx
    have e' : k = false := e
    subst e'
    exact truthy_none ⟨H, I, q⟩
  | bl b =>
    cases rx
    have e' : k = b := e
    subst e'
    exact wpAny_truthy_bool ⟨H, I, q⟩
  | int i =>
    obtain ⟨t, rfl⟩ := rx
    have e' : k = (i != 0) := e
    subst e'
    exact PySem.P.truthy_int ⟨H, I, q⟩
  | str y =>
    obtain ⟨t, rfl⟩ := rx
    obtain ⟨hy, e'⟩ : y.length ≤ sizeLine ∧ k = ((y.length : Int) != 0) := e
    subst e'
    exact PySem.P.truthy_str (by omega) ⟨H, I.tok _, q⟩
  | byt y =>
    obtain ⟨t, rfl⟩ := rx
    obtain ⟨hy, e'⟩ : y.size ≤ sizeLine ∧ k = ((y.size : Int) != 0) := e
    subst e'
    exact PySem.W.truthy_bytes (by omega) ⟨H, I.tok _, q⟩
  | ref p =>
    cases rx
    have e' : (∃ xs, SqL X.K H p xs ∧ k = !xs.isEmpty) ∨ (∃ xs, SqT X.K H p xs ∧ k = !xs.isEmpty) ∨ ∃ kvs, H p = some (.dK kvs) ∧ k = !kvs.isEmpty := e
    rcases e' with ⟨xs, hx, e'⟩ | ⟨xs, hx, e'⟩ | ⟨kvs, hx, e'⟩
    · subst e'
      obtain ⟨its, r, pl, hz⟩ := I.list hx
      have hlen := r.length
      exact wpAny_truthy_list pl.isList (by simp only [List.size_toArray]; omega) ⟨H, I.tok _, by rw [isEmpty_of r]; exact q⟩
    · subst e'
      obtain ⟨its, r, pl, hz⟩ := I.tuple hx
      have hlen := r.length
      exact truthy_tuple pl (by simp only [List.size_toArray]; omega) ⟨H, I.tok _, by rw [isEmpty_of r]; exact q⟩
    · subst e'
      obtain ⟨hz, hS, vs, r, m⟩ : kvs.length ≤ sizeLine ∧ (p == sysModules) = false ∧ ∃ vs, KV kvs vs ∧ s.heap.DictOf (mixKind X.prog X.w) p vs := I.hok p _ hx
      have hlen : kvs.length = vs.length := Paired.length r
      exact wpAny_truthy_dict hS m (by omega) ⟨H, I.tok _, by rw [isEmpty_kv r]; exact q⟩
  | _ => exact (show False from e).elim
/-- any expression whose test is its value's truth (a name, a call, a subscript, a field ..: he by fun _ => rfl) -/
theorem pt_truth (ha : PE X a ta) (he : ∀ whole, isTrue a X.env whole = (do let v ← whole; standAt a.pos; holding [v] (truthy v))) :
    PT X a (fun σ H Q => ta σ H fun x H' => ∃ k, TruV X.K x H' k ∧ Q k H') := by
  intro pins s σ H Q I h
  exact isTrue_plain (thn (ha pins s σ H _ I h) fun v s1 ⟨x, H1, I1, r1, q1⟩ => tru_ok pins s1 σ H1 x v Q I1 r1 q1) (he _)

/-! ### strs and bytes -/
theorem pe_byt {x : List UInt8} {k : Nat} : PE X (.Constant (.bytes x) k pos) (fun _ H Q => Q (.byt x.toArray) H) := fun _ _ _ H _ I h => PySem.W.Constant_bytes ⟨.byt x.toArray, H, I.tok _, ⟨_, rfl⟩, h⟩
theorem op_add_str : OpR X (binaryOp .Add) (fun x y H Q => ∃ i j, x = .str i ∧ y = .str j ∧ i.length + j.length ≤ sizeLine ∧ Q (.str (i ++ j)) H) := by
  intro pins s σ H x y v u Q I rx ry h
  obtain ⟨i, j, rfl, rfl, hz, q⟩ := h
  obtain ⟨t, rfl⟩ := rx
  obtain ⟨t', rfl⟩ := ry
  exact add_str (fun t' tk => ⟨.str (i ++ j), H, I.tok _, ⟨_, rfl⟩, q⟩) hz
theorem iop_add_str : OpR X (inplaceOp .Add) (fun x y H Q => ∃ i j, x = .str i ∧ y = .str j ∧ i.length + j.length ≤ sizeLine ∧ Q (.str (i ++ j)) H) := by
  intro pins s σ H x y v u Q I rx ry h
  obtain ⟨i, j, rfl, rfl, hz, q⟩ := h
  obtain ⟨t, rfl⟩ := rx
  obtain ⟨t', rfl⟩ := ry
  exact iadd_str (fun t' tk => ⟨.str (i ++ j), H, I.tok _, ⟨_, rfl⟩, q⟩) hz
theorem op_add_byt : OpR X (binaryOp .Add) (fun x y H Q => ∃ i j, x = .byt i ∧ y = .byt j ∧ i.size + j.size ≤ 16777216 ∧ Q (.byt (i ++ j)) H) := by
  intro pins s σ H x y v u Q I rx ry h
  obtain ⟨i, j, rfl, rfl, hz, q⟩ := h
  obtain ⟨t, rfl⟩ := rx
  obtain ⟨t', rfl⟩ := ry
  exact PySem.W.KBy.add_bytes hz (fun t' tk => ⟨.byt (i ++ j), H, I.tok _, ⟨_, rfl⟩, q⟩)

def PlainIxT (b : Expr) : Prop := ∀ o i, subscripted b false o i = operate [o, i] (getItem o i)
/-- s[i], 0 ≤ i < len -/
theorem pe_item_str (ha : PE X a ta) (hb : PE X b tb) (hs : PlainIxT b) :
    PE X (.Subscript a b pos) (tOp (fun x y H Q => ∃ z i c, x = .str z ∧ y = .int i ∧ 0 ≤ i ∧ i < 2 ^ 63 ∧ i < z.length ∧ z.cps[i.toNat]? = some c ∧ Q (.str ⟨#[c]⟩) H) ta tb) := by
  intro pins s σ H Q I h
  refine Subscript_ (binT ha hb I h fun v u s2 x y H2 I2 rx ry q => ?_)
  obtain ⟨z, i, c, rfl, rfl, h0, h63, h1, hc, q⟩ := q
  obtain ⟨t, rfl⟩ := rx
  obtain ⟨t', rfl⟩ := ry
  have e : seqIndex? i z.length = some i.toNat := PySem.StrLaws.seqIndex_nonneg h0 h1
  exact tail_any (typeIs_str s2 z t) slot_str_getitem.lookup (getItem_str (c := c) (by
    have e1 : decide (i < -(2 ^ 63 : Int)) = false := decide_eq_false (by omega)
    have e2 : decide (i ≥ 2 ^ 63) = false := decide_eq_false (by omega)
    rw [e1, e2] <;> rfl) (by rw [e]; exact hc) ⟨.str ⟨#[c]⟩, H2, I2.tok _, ⟨_, rfl⟩, q⟩) (hs _ _)
/-- b[i], 0 ≤ i < len -/
theorem pe_item_byt (ha : PE X a ta) (hb : PE X b tb) (hs : PlainIxT b) :
    PE X (.Subscript a b pos) (tOp (fun x y H Q => ∃ (z : List UInt8) (i : Int), x = .byt z.toArray ∧ y = .int i ∧ z.length ≤ sizeLine ∧ 0 ≤ i ∧ i < z.length ∧ Q (.int ((z.getD i.toNat 0).toNat : Nat)) H) ta tb) := by
  intro pins s σ H Q I h
  refine Subscript_ (binT ha hb I h fun v u s2 x y H2 I2 rx ry q => ?_)
  obtain ⟨z, i, rfl, rfl, hz, h0, h1, q⟩ := q
  obtain ⟨t, rfl⟩ := rx
  obtain ⟨t', rfl⟩ := ry
  have hl : sizeLine = 16777216 := sizeLine_eq
  exact tail_any (PySem.W.typeIs_bytes s2 z.toArray t) PySem.W.FB.slot_bytes_getitem.lookup (PySem.W.getItem_bytes (by omega) h0 h1 ⟨.int ((z.getD i.toNat 0).toNat : Nat), H2, I2.tok _, ⟨_, rfl⟩, q⟩) (hs _ _)

/-! ### scalar builtins, by CallR -/
theorem vals1 {x : V} {us : List Value} (r : Vals [x] us) : ∃ u, us = [u] ∧ RelV x u := by
  cases r with
  | cons r1 r2 => cases r2; exact ⟨_, rfl, r1⟩
theorem vals2 {x y : V} {us : List Value} (r : Vals [x, y] us) : ∃ u w', us = [u, w'] ∧ RelV x u ∧ RelV y w' := by
  cases r with
  | cons r1 r2 =>
    cases r2 with
    | cons r3 r4 => cases r4; exact ⟨_, _, rfl, r1, r3⟩
theorem call_abs : CallR X (.builtin "abs") (fun xs H Q => ∃ i, xs = [.int i] ∧ Q (.int (if i < 0 then -i else i)) H) := by
  intro pins s σ H xs us Q I r h
  obtain ⟨i, rfl, q⟩ := h
  obtain ⟨u, rfl, t, rfl⟩ := vals1 r
  exact call_abs_int fun u tk => ⟨.int (if i < 0 then -i else i), H, I.tok _, ⟨_, rfl⟩, q⟩
theorem call_max2 (hc : X.calm = true) : CallR X (.builtin "max") (fun xs H Q => ∃ i j, xs = [.int i, .int j] ∧ Q (.int (if j > i then j else i)) H) := by
  intro pins s σ H xs us Q I r h
  obtain ⟨i, j, rfl, q⟩ := h
  obtain ⟨u, w', rfl, ⟨t, rfl⟩, ⟨t', rfl⟩⟩ := vals2 r
  refine max_two_ints (I.ok.hd hc) fun h' tk k => ⟨_, H, I.kept k, ?_, q⟩
  by_cases hj : j > i
  · rw [if_pos hj, if_pos hj]; exact ⟨_, rfl⟩
  · rw [if_neg hj, if_neg hj]; exact ⟨_, rfl⟩
theorem call_min2 (hc : X.calm = true) : CallR X (.builtin "min") (fun xs H Q => ∃ i j, xs = [.int i, .int j] ∧ Q (.int (if j < i then j else i)) H) := by
  intro pins s σ H xs us Q I r h
  obtain ⟨i, j, rfl, q⟩ := h
  obtain ⟨u, w', rfl, ⟨t, rfl⟩, ⟨t', rfl⟩⟩ := vals2 r
  refine min_two_ints (I.ok.hd hc) fun h' tk k => ⟨_, H, I.kept k, ?_, q⟩
  by_cases hj : j < i
  · rw [if_pos hj, if_pos hj]; exact ⟨_, rfl⟩
  · rw [if_neg hj, if_neg hj]; exact ⟨_, rfl⟩
theorem call_int1 : CallR X (.type "int") (fun xs H Q => (∃ i, xs = [.int i] ∧ Q (.int i) H) ∨ ∃ k, xs = [.bl k] ∧ Q (.int (if k then 1 else 0)) H) := by
  intro pins s σ H xs us Q I r h
  rcases h with ⟨i, rfl, q⟩ | ⟨k, rfl, q⟩
  · obtain ⟨u, rfl, t, rfl⟩ := vals1 r
    exact call_int_int ⟨.int i, H, I, ⟨_, rfl⟩, q⟩
  · obtain ⟨u, rfl, r1⟩ := vals1 r
    cases r1
    exact call_int_bool ⟨.int (if k then 1 else 0), H, I.tok _, ⟨_, rfl⟩, q⟩
theorem call_bool1 : CallR X (.type "bool") (fun xs H Q => (∃ i, xs = [.int i] ∧ Q (.bl (i != 0)) H) ∨ ∃ k, xs = [.bl k] ∧ Q (.bl k) H) := by
  intro pins s σ H xs us Q I r h
  rcases h with ⟨i, rfl, q⟩ | ⟨k, rfl, q⟩
  · obtain ⟨u, rfl, t, rfl⟩ := vals1 r
    exact call_bool_int ⟨.bl (i != 0), H, I, rfl, q⟩
  · obtain ⟨u, rfl, r1⟩ := vals1 r
    cases r1
    exact call_bool_bool ⟨.bl k, H, I, rfl, q⟩
theorem call_str_int : CallR X (.type "str") (fun xs H Q => ∃ i, xs = [.int i] ∧ i.natAbs.log2 < 1920 ∧ Q (.str (toString i)) H) := by
  intro pins s σ H xs us Q I r h
  obtain ⟨i, rfl, hz, q⟩ := h
  obtain ⟨u, rfl, t, rfl⟩ := vals1 r
  exact PySem.P.str_of_int hz ⟨.str _, H, I.tok _, ⟨_, rfl⟩, q⟩
theorem call_ord : CallR X (.builtin "ord") (fun xs H Q => ∃ x, xs = [.str x] ∧ x.length = 1 ∧ Q (.int (x.cps.getD 0 0 : Nat)) H) := by
  intro pins s σ H xs us Q I r h
  obtain ⟨x, rfl, hz, q⟩ := h
  obtain ⟨u, rfl, t, rfl⟩ := vals1 r
  exact ord_of_one hz ⟨.int _, H, I.tok _, ⟨_, rfl⟩, q⟩
theorem call_chr : CallR X (.builtin "chr") (fun xs H Q => ∃ i, xs = [.int i] ∧ 0 ≤ i ∧ i ≤ 1114111 ∧ Q (.str ⟨#[i.toNat]⟩) H) := by
  intro pins s σ H xs us Q I r h
  obtain ⟨i, rfl, h0, h1, q⟩ := h
  obtain ⟨u, rfl, t, rfl⟩ := vals1 r
  exact chr_of_range h0 h1 ⟨.str _, H, I.tok _, ⟨_, rfl⟩, q⟩
/-- len of a str, a bytes, a list, a tuple -/
def LenV (K : PySem.W.Frag) (x : V) (H : Hp) (n : Nat) : Prop :=
  match x with
  | .str y => y.length ≤ sizeLine ∧ n = y.length
  | .byt y => y.size ≤ sizeLine ∧ n = y.size
  | .ref p => (∃ xs, SqL K H p xs ∧ n = xs.length) ∨ ∃ xs, SqT K H p xs ∧ n = xs.length
  | _ => False
theorem call_len : CallR X (.builtin "len") (fun xs H Q => ∃ x n, xs = [x] ∧ LenV X.K x H n ∧ Q (.int n) H) := by
  intro pins s σ H xs us Q I r h
  obtain ⟨x, n, rfl, e, q⟩ := h
  obtain ⟨u, rfl, rx⟩ := vals1 r
  have hl := line63
  have hs : sizeLine = 16777216 := sizeLine_eq
  cases x with
  | str y =>
    obtain ⟨t, rfl⟩ := rx
    obtain ⟨hy, e'⟩ : y.length ≤ sizeLine ∧ n = y.length := e
    subst e'
    exact len_str (by omega) ⟨.int _, H, I.tok _, ⟨_, rfl⟩, q⟩
  | byt y =>
    obtain ⟨t, rfl⟩ := rx
    obtain ⟨hy, e'⟩ : y.size ≤ sizeLine ∧ n = y.size := e
    subst e'
    exact PySem.W.len_bytes (by omega) ⟨.int _, H, I.tok _, ⟨_, rfl⟩, q⟩
  | ref p =>
    cases rx
    have e' : (∃ xs, SqL X.K H p xs ∧ n = xs.length) ∨ ∃ xs, SqT X.K H p xs ∧ n = xs.length := e
    rcases e' with ⟨xs, hx, e'⟩ | ⟨xs, hx, e'⟩
    · subst e'
      obtain ⟨its, r', pl, hz⟩ := I.list hx
      have hlen := r'.length
      exact Calls.call_len_list pl.isList (by simp only [List.size_toArray]; omega) ⟨.int xs.length, H, I.tok _, ⟨_, by simp only [List.size_toArray]; rw [hlen]⟩, q⟩
    · subst e'
      obtain ⟨its, r', pl, hz⟩ := I.tuple hx
      have hlen := r'.length
      exact len_tuple pl (by simp only [List.size_toArray]; omega) ⟨.int xs.length, H, I.tok _, ⟨_, by simp only [List.size_toArray]; rw [hlen]⟩, q⟩
  | _ => exact (show False from e).elim
/-- divmod: a new tuple -/
theorem call_divmod : CallR X (.builtin "divmod") (fun xs H Q => ∃ i j, xs = [.int i, .int j] ∧ CDiv i j ∧ ∀ p, H p = none → Q (.ref p) (upd H p (.tup [.int (i / j), .int (i % j)]))) := by
  intro pins s σ H xs us Q I r h
  obtain ⟨i, j, rfl, ⟨h1, h2⟩, q⟩ := h
  obtain ⟨u, w', rfl, ⟨t, rfl⟩, ⟨t', rfl⟩⟩ := vals2 r
  refine divmod_int (by omega) ?_ (.inl (PyProof.noPylong_small (by omega)))
  rw [Int.fdiv_eq_ediv_of_nonneg i (by omega), Int.fmod_eq_emod_of_nonneg i (by omega)]
  have hn : H s.heap.objs.size = none := I.hok.fresh (Nat.le_refl _)
  refine ⟨.ref s.heap.objs.size, _, ?_, rfl, q _ hn⟩
  refine I.laid (fun b o e => Heap.get?_push_of_some _ e) (Nat.le_refl _) ⟨⟨by simp only [List.length_cons, List.length_nil]; rw [sizeLine_eq]; decide, _, Heap.get?_push_size s.heap rfl, rfl⟩, [.int (i / j) s.toks, .int (i % j) (s.toks + 1)], .cons ⟨_, rfl⟩ (.cons ⟨_, rfl⟩ .nil), ?_⟩
  exact ⟨_, Heap.get?_push_size s.heap rfl, rfl, 0, rfl⟩
end
end L2

namespace L2
open PySem PySem.Spec PyProof.Rows

/-! ### an instance, its attributes a map -/
structure ObjM (h : Heap) (x dx C : Addr) (mA : Str → Option Value) : Prop where
  obj : h.get? x = some (PySem.W.instObj C dx)
  ns : h.Ns1 dx mA
  ne : dx ≠ x

theorem lookIn_ns {h : Heap} {dx : Addr} {mA : Str → Option Value} (n : h.Ns1 dx mA) : ∃ od, h.get? dx = some od ∧ ∀ name, PySem.W.lookIn name od = some (mA name) := by
  obtain ⟨o, es, ep, ho, hd, hk, _, hm⟩ := n
  refine ⟨o, ho, fun name => ?_⟩
  have e := hm name
  unfold nsFind findBy at e
  rw [← Array.find?_toList] at e
  unfold PySem.W.lookIn
  rw [hd]
  dsimp only
  split
  · rename_i y q
    rw [q] at e
    exact congrArg some e
  · rename_i q
    rw [q] at e
    have a : es.toList.any (·.refKey) = false := by
      rw [List.any_eq_false]
      intro y hy
      obtain ⟨z, t, hkey⟩ := hk y (Array.mem_toList_iff.mp hy)
      simp [DictEntry.refKey, hkey]
    have a' : ¬ es.toList.any (·.refKey) = true := by rw [a]; exact Bool.false_ne_true
    rw [if_neg a']
    exact congrArg some e

theorem ObjM.look {h : Heap} {x dx C : Addr} {mA : Str → Option Value} (I : ObjM h x dx C mA) : ∃ od, PySem.W.InstAt h x (PySem.W.instObj C dx) C (some od) ∧ ∀ name, PySem.W.lookIn name od = some (mA name) :=
  let ⟨od, ho, hl⟩ := lookIn_ns I.ns
  ⟨od, ⟨I.obj, rfl, rfl, ho⟩, hl⟩

section
variable {prog : Program} {w : World} {A : Around} {E : Value → Shared → Prop} {s : Shared} {K : PySem.W.Frag} {x dx C f : Addr} {mA : Str → Option Value} {name : Str} {v : Value}

theorem get_map {expr : Bool} {Q : Value → Shared → Prop} (X : K.In s.heap) (I : ObjM s.heap x dx C mA) (hg : PySem.W.plainGet K C name = true) (hh : PySem.W.hasDictIn K C = true)
    (ha : PySem.W.findIn K (.ref C) name = some none) (hv : mA name = some v) (hv' : PySem.W.handedIn v = true) (h : Q v { s with toks := s.toks + 1 }) :
    wpAny (model prog w) A (getAttr (.ref x) name expr) Q E s := by
  obtain ⟨od, J, hl⟩ := I.look
  exact PySem.W.get_value X J (PySem.W.plainGet_of hg).1 (PySem.W.findObj_own hh ha rfl (by rw [hl, hv])) hv' h

theorem get_const {expr : Bool} {a : Value} {Q : Value → Shared → Prop} (X : K.In s.heap) (I : ObjM s.heap x dx C mA) (hg : PySem.W.plainGet K C name = true) (hh : PySem.W.hasDictIn K C = true)
    (ha : PySem.W.findIn K (.ref C) name = some (some a)) (hn : PySem.W.specialIn K a "__get__" = some none) (hc : PySem.W.copiedNames.contains name = false) (hv : mA name = none) (hv' : PySem.W.handedIn a = true)
    (h : Q a { s with toks := s.toks + 1 }) : wpAny (model prog w) A (getAttr (.ref x) name expr) Q E s := by
  obtain ⟨od, J, hl⟩ := I.look
  exact PySem.W.get_value X J (PySem.W.plainGet_of hg).1 (PySem.W.findObj_cls hh ha hn hv' hc (by rw [hl, hv])) hv' h

theorem get_meth {pl : Sem Bool} {Q : Value × List Value → Shared → Prop} (X : K.In s.heap) (I : ObjM s.heap x dx C mA) (hg : PySem.W.plainGet K C name = true)
    (hf : PySem.W.findIn K (.ref C) name = some (some (.ref f))) (ht : PySem.W.isFn K (.ref f) = true) (hv : mA name = none) (h : Q (.ref f, [.ref x]) s) :
    wpAny (model prog w) A (getMethod (.ref x) name pl) Q E s := by
  obtain ⟨od, J, hl⟩ := I.look
  exact PySem.W.method_fn X J (PySem.W.plainGet_of hg).1 (PySem.W.plainGet_of hg).2 hf (beq_iff_eq.mp ht) (by show (PySem.W.lookIn name od).map (·.isSome) = some false; rw [hl, hv]; rfl) h

theorem set_map {ns : List Str} {Q : Unit → Shared → Prop} (X : K.In s.heap) (I : ObjM s.heap x dx C mA)
    (hs : PySem.W.findIn K (.ref C) "__setattr__" = some (some (.builtin "object.__setattr__"))) (hp : PySem.W.plainOver K C = true) (ht : PySem.W.takerIn K C name = some none) (hh : PySem.W.hasDictIn K C = true)
    (hw : PySem.Within mA ns) (hsz : ns.length ≤ sizeLine)
    (h : ∀ h', ObjM h' x dx C (fun y => if y = name then some v else mA y) → Heap.SameBut dx s.heap h' → Q () { s with heap := h', toks := s.toks + 2 }) :
    wpAny (model prog w) A (setAttr (.ref x) name v) Q E s := by
  obtain ⟨od, J, hl⟩ := I.look
  refine PySem.W.set_plain X J hs (PySem.W.osa_open (s := { s with toks := s.toks + 1 }) (r := none) X J hp ht fun b => ?_)
  obtain ⟨cd, hc, hd'⟩ := PySem.W.any_some hh
  have hx : s.heap.get? x = some ⟨.ref C, some dx, .plain, #[]⟩ := I.obj
  refine wpAny_bind (wpAny_pure (wpAny_bind (wpAny_bind (wpAny_loadPart hx (wpAny_bind (PySem.W.Looks.here (s := { s with toks := s.toks + 1 }) (PySem.W.looks_clsIn X hc) ?_))))))
  rw [hd']
  refine wpAny_pure (a := some dx) (wpAny_bind (wpAny_pure (wpAny_bind ?_)))
  refine wpAny_nsSet1 (s := { s with toks := s.toks + 1 }) I.ns fun h' hn2 hs2 => ?_
  obtain ⟨oD, esD, epD, hoD, hdD, hcD⟩ := hn2.count (PySem.Within.cons name v hw)
  refine wpAny_bind (wpAny_lookBehind hoD (by rw [hdD]; exact pastItsLine_dict (Nat.le_trans hcD (by rw [List.length_cons]; omega))) ?_)
  exact wpAny_pure (h _ ⟨(hs2.2 _ (Ne.symm I.ne)).trans I.obj, hn2, I.ne⟩ hs2)

/-- C(..): the dict at the heap's end, the instance behind it; then its __init__ -/
theorem make_map {R : Result → Shared → Prop} {vs : List Value} {kw : List (Str × Value)} (X : K.In s.heap) (hm : PySem.W.makesIn K C = true)
    (hi : PySem.W.findIn K (.ref C) "__init__" = some (some (.ref f))) (hf : PySem.W.typeIn K (.ref f) = some (.type "function"))
    (h : codeAny (model prog w) (A.under (.builtin "type.__call__" ⟨.ref C :: vs, kw⟩)) (.call (.ref f) ⟨.ref (s.heap.objs.size + 1) :: vs, kw⟩) (PySem.W.InitBack (s.heap.objs.size + 1) R)
      { s with heap := (s.heap.push PySem.W.emptyDict).push (PySem.W.instObj C s.heap.objs.size) }) :
    codeAny (model prog w) A (.call (.ref C) ⟨vs, kw⟩) R s := by
  obtain ⟨hh, g, d, t, os⟩ := s
  exact PySem.W.make_core (PySem.W.makes_of X hm) (PySem.W.looks_findIn X hi) (fun self => PySem.W.bind_fn X self hf) (.inl rfl) h
/-- C() where there is no __init__ but object's -/
theorem make_map0 {R : Result → Shared → Prop} (X : K.In s.heap) (hm : PySem.W.makesIn K C = true)
    (hi : PySem.W.findIn K (.ref C) "__init__" = some (some (.builtin "object.__init__")))
    (hb : ∀ self, PySem.W.Looks (model prog w) s.heap (bindSpecial (.builtin "object.__init__") self) (.builtin "object.__init__", [self]))
    (h : codeAny (model prog w) (A.under (.builtin "type.__call__" ⟨[.ref C], []⟩)) (.call (.builtin "object.__init__") ⟨[.ref (s.heap.objs.size + 1)], []⟩) (PySem.W.InitBack (s.heap.objs.size + 1) R)
      { s with heap := (s.heap.push PySem.W.emptyDict).push (PySem.W.instObj C s.heap.objs.size) }) :
    codeAny (model prog w) A (.call (.ref C) ⟨[], []⟩) R s := by
  obtain ⟨hh, g, d, t, os⟩ := s
  exact PySem.W.make_core (PySem.W.makes_of X hm) (PySem.W.looks_findIn X hi) hb (.inr ⟨rfl, rfl⟩) h
end

/-! ### the attributes as a list of pairs -/
def putF (f : Str) (v : V) : List (Str × V) → List (Str × V)
  | [] => [(f, v)]
  | (g, x) :: r => if g = f then (g, v) :: r else (g, x) :: putF f v r
theorem lookup_putF (f g : Str) (v : V) : ∀ fs : List (Str × V), (putF f v fs).lookup g = if g = f then some v else fs.lookup g
  | [] => by
    show List.lookup g [(f, v)] = _
    by_cases h : g = f
    · have hb : (g == f) = true := beq_iff_eq.mpr h
      simp only [List.lookup, hb, if_pos h]
    · have hb : (g == f) = false := beq_eq_false_iff_ne.mpr h
      simp only [List.lookup, hb, if_neg h]
  | (k, x) :: r => by
    have ih := lookup_putF f g v r
    rw [show putF f v ((k, x) :: r) = (if k = f then (k, v) :: r else (k, x) :: putF f v r) from rfl]
    by_cases hk : k = f
    · rw [if_pos hk]
      by_cases h : g = k
      · have hb : (g == k) = true := beq_iff_eq.mpr h
        simp only [List.lookup, hb, if_pos (h.trans hk)]
      · have hb : (g == k) = false := beq_eq_false_iff_ne.mpr h
        simp only [List.lookup, hb, if_neg (fun e : g = f => h (e.trans hk.symm))]
    · rw [if_neg hk]
      by_cases h : g = k
      · have hb : (g == k) = true := beq_iff_eq.mpr h
        simp only [List.lookup, hb, if_neg (fun e : g = f => hk (h.symm.trans e))]
      · have hb : (g == k) = false := beq_eq_false_iff_ne.mpr h
        simp only [List.lookup, hb]
        exact ih
theorem keys_putF (f : Str) (v : V) : ∀ fs : List (Str × V), f ∈ (putF f v fs).map (·.1) ∧ ∀ g, g ∈ fs.map (·.1) → g ∈ (putF f v fs).map (·.1)
  | [] => ⟨by simp [putF], fun g h => by simp at h⟩
  | (k, x) :: r => by
    obtain ⟨i1, i2⟩ := keys_putF f v r
    rw [show putF f v ((k, x) :: r) = (if k = f then (k, v) :: r else (k, x) :: putF f v r) from rfl]
    by_cases hk : k = f
    · rw [if_pos hk]
      subst hk
      exact ⟨by simp, fun g h => by simpa using h⟩
    · rw [if_neg hk]
      refine ⟨?_, fun g h => ?_⟩
      · rw [List.map_cons]
        exact List.mem_cons_of_mem _ i1
      · rw [List.map_cons] at h ⊢
        rcases List.mem_cons.mp h with e | e
        · exact List.mem_cons.mpr (.inl e)
        · exact List.mem_cons_of_mem _ (i2 g e)
theorem length_putF (f : Str) (v : V) : ∀ fs : List (Str × V), (putF f v fs).length ≤ fs.length + 1
  | [] => by simp [putF]
  | (k, x) :: r => by
    have ih := length_putF f v r
    rw [show putF f v ((k, x) :: r) = (if k = f then (k, v) :: r else (k, x) :: putF f v r) from rfl]
    by_cases hk : k = f
    · rw [if_pos hk, List.length_cons, List.length_cons]; omega
    · rw [if_neg hk, List.length_cons, List.length_cons]; omega

theorem RelO.some_of {v : V} {o : Option Value} (r : RelO (some v) o) : ∃ u, o = some u ∧ RelV v u := by
  cases o with
  | none => exact (show False from r).elim
  | some u => exact ⟨u, rfl, r⟩
theorem RelO.none_of {o : Option Value} (r : RelO none o) : o = none := by
  cases o with
  | none => rfl
  | some u => exact (show False from r).elim
theorem handed_of {v : V} {u : Value} (r : RelV v u) : PySem.W.handedIn u = true := by
  cases v with
  | non => cases (show u = Value.none from r); rfl
  | bl b => cases (show u = Value.bool b from r); rfl
  | int i => obtain ⟨t, e⟩ := (show ∃ t, u = Value.int i t from r); cases e; rfl
  | str x => obtain ⟨t, e⟩ := (show ∃ t, u = Value.str x t from r); cases e; rfl
  | byt b => obtain ⟨t, e⟩ := (show ∃ t, u = Value.bytes b t from r); cases e; rfl
  | flt b => obtain ⟨t, e⟩ := (show ∃ t, u = Value.float b t from r); cases e; rfl
  | ref a => cases (show u = Value.ref a from r); rfl
  | ty n => cases (show u = Value.type n from r); rfl

section
variable {P : Program} {w : World} {H H' : Hp} {h h' : Heap} {a C dx : Addr} {fs fs' : List (Str × V)}
theorem ins_get (hok : HOk P w H h) (e : H a = some (.ins C dx fs)) : ∃ mA, ObjM h a dx C mA ∧ (∀ f, RelO (fs.lookup f) (mA f)) ∧ PySem.Within mA (fs.map (·.1)) ∧ fs.length ≤ 1000 ∧ H dx = some (.own a) := by
  obtain ⟨d, z, ne, ob, mA, n, r, q⟩ := (show ObjOk P w H h a (.ins C dx fs) from hok a _ e)
  exact ⟨mA, ⟨ob, n, ne⟩, r, q, z, d⟩
end

/-! ### what of the text a class must have -/
structure Cls (K : PySem.W.Frag) (C : Addr) : Prop where
  pg : PySem.W.plainGet K C Str.empty = true
  hd : PySem.W.hasDictIn K C = true
  po : PySem.W.plainOver K C = true
  sa : PySem.W.findIn K (.ref C) "__setattr__" = some (some (.builtin "object.__setattr__"))
theorem Cls.get {K : PySem.W.Frag} {C : Addr} (c : Cls K C) (f : Str) : PySem.W.plainGet K C f = true := c.pg
/-- no class of it has the name -/
def NoAttr (K : PySem.W.Frag) (C : Addr) (f : Str) : Prop := PySem.W.findIn K (.ref C) f = some none
theorem NoAttr.taker {K : PySem.W.Frag} {C : Addr} {f : Str} (n : NoAttr K C f) : PySem.W.takerIn K C f = some none := by
  unfold PySem.W.takerIn
  rw [show PySem.W.findIn K (.ref C) f = some none from n]
  rfl
/-- a constant of the class -/
structure Con (K : PySem.W.Frag) (C : Addr) (f : Str) (v : V) (u : Value) : Prop where
  at_ : PySem.W.findIn K (.ref C) f = some (some u)
  rel : RelV v u
  get : PySem.W.specialIn K u "__get__" = some none
  cp : PySem.W.copiedNames.contains f = false
/-- a method: a plain def of the class or of one above it -/
structure Meth (K : PySem.W.Frag) (C : Addr) (m : Str) (f : Addr) : Prop where
  at_ : PySem.W.findIn K (.ref C) m = some (some (.ref f))
  fn : PySem.W.isFn K (.ref f) = true
  kp : PySem.W.keepIn K (.ref f) = true

section
variable {X : Cx} {pins : List (Addr × Obj)} {σ : St} {H : Hp} {s : Shared} {a C dx : Addr} {fs : List (Str × V)} {f : Str} {v : V} {A : Around} {E : Value → Shared → Prop}

theorem getattr_ok {b : Bool} {Q : Value → Shared → Prop} (I : Inv X pins σ H s) (e : H a = some (.ins C dx fs)) (c : Cls X.K C) (n : NoAttr X.K C f) (l : fs.lookup f = some v)
    (h : ∀ u s', Inv X pins σ H s' → RelV v u → Q u s') : wpAny (model X.prog X.w) A (getAttr (.ref a) f b) Q E s := by
  obtain ⟨mA, O, r, _, _, _⟩ := ins_get I.hok e
  obtain ⟨u, hu, ru⟩ := RelO.some_of (v := v) (o := mA f) (by rw [← l]; exact r f)
  exact get_map I.kIn O (c.get f) c.hd n hu (handed_of ru) (h u _ (I.tok _) ru)

theorem getcon_ok {b : Bool} {u : Value} {Q : Value → Shared → Prop} (I : Inv X pins σ H s) (e : H a = some (.ins C dx fs)) (c : Cls X.K C) (k : Con X.K C f v u) (l : fs.lookup f = none)
    (h : ∀ s', Inv X pins σ H s' → Q u s') : wpAny (model X.prog X.w) A (getAttr (.ref a) f b) Q E s := by
  obtain ⟨mA, O, r, _, _, _⟩ := ins_get I.hok e
  have hn : mA f = none := RelO.none_of (by rw [← l]; exact r f)
  exact get_const I.kIn O (c.get f) c.hd k.at_ k.get k.cp hn (handed_of k.rel) (h _ (I.tok _))

theorem getmeth_ok {m : Str} {g : Addr} {pl : Sem Bool} {Q : Value × List Value → Shared → Prop} (I : Inv X pins σ H s) (e : H a = some (.ins C dx fs)) (c : Cls X.K C) (k : Meth X.K C m g) (l : fs.lookup m = none)
    (h : Q (.ref g, [.ref a]) s) : wpAny (model X.prog X.w) A (getMethod (.ref a) m pl) Q E s := by
  obtain ⟨mA, O, r, _, _, _⟩ := ins_get I.hok e
  have hn : mA m = none := RelO.none_of (by rw [← l]; exact r m)
  exact get_meth I.kIn O (c.get m) k.at_ k.fn hn h

theorem setattr_ok {y : V} {u : Value} {Q : Unit → Shared → Prop} (I : Inv X pins σ H s) (e : H a = some (.ins C dx fs)) (c : Cls X.K C) (n : NoAttr X.K C f) (hl : fs.length < 1000) (ry : RelV y u)
    (h : ∀ s', Inv X pins σ (upd H a (.ins C dx (putF f y fs))) s' → Q () s') : wpAny (model X.prog X.w) A (setAttr (.ref a) f u) Q E s := by
  obtain ⟨mA, O, r, wi, _, ho⟩ := ins_get I.hok e
  have hz : (fs.map (·.1)).length ≤ sizeLine := by rw [List.length_map, sizeLine_eq]; omega
  refine set_map I.kIn O c.sa c.po n.taker c.hd wi hz fun h' O' sb => h _ ?_
  have hd : ∃ o, h'.get? dx = some o := let ⟨o, _, _, e', _⟩ := O'.ns; ⟨o, e'⟩
  refine I.write (x := a) (e := dx) (by rw [e]; exact True.intro) (.inr ho) (fun b q hb z => (sb.2 b hb).trans z) hd ?_
  refine ⟨by rw [upd_ne O.ne]; exact ho, ?_, O.ne, O'.obj, _, O'.ns, fun g => ?_, fun g hg => ?_⟩
  · have := length_putF f y fs; omega
  · show RelO ((putF f y fs).lookup g) (if g = f then some u else mA g)
    rw [lookup_putF]
    by_cases q : g = f
    · rw [if_pos q, if_pos q]; exact ry
    · rw [if_neg q, if_neg q]; exact r g
  · by_cases q : g = f
    · rw [q]; exact (keys_putF f y fs).1
    · refine (keys_putF f y fs).2 g (wi g fun z => hg ?_)
      show (if g = f then some u else mA g) = none
      rw [if_neg q]; exact z

/-- a new instance, tracked, without attributes -/
theorem Inv.made (I : Inv X pins σ H s) : Inv X pins σ (upd (upd H s.heap.objs.size (.own (s.heap.objs.size + 1))) (s.heap.objs.size + 1) (.ins C s.heap.objs.size []))
    { s with heap := (s.heap.push PySem.W.emptyDict).push (PySem.W.instObj C s.heap.objs.size) } := by
  have e1 : (s.heap.push PySem.W.emptyDict).get? s.heap.objs.size = some PySem.W.emptyDict := Heap.get?_push_size s.heap rfl
  have e2 : ((s.heap.push PySem.W.emptyDict).push (PySem.W.instObj C s.heap.objs.size)).get? (s.heap.objs.size + 1) = some (PySem.W.instObj C s.heap.objs.size) := by
    have := Heap.get?_push_size (s.heap.push PySem.W.emptyDict) (o := PySem.W.instObj C s.heap.objs.size) rfl
    rwa [Heap.size_push] at this
  have e3 : (s.heap.push PySem.W.emptyDict).Ns s.heap.objs.size (fun _ => none) := ⟨PySem.W.emptyDict, #[], _, e1, rfl, (fun e he => absurd he (by simp)), fun _ => rfl⟩
  have I1 := I.laid (a := s.heap.objs.size) (o := .own (s.heap.objs.size + 1)) (h' := s.heap.push PySem.W.emptyDict) (t' := s.toks) (fun b u q => Heap.get?_push_of_some _ q) (Nat.le_refl _) ⟨_, e1⟩
  refine I1.laid (a := s.heap.objs.size + 1) (o := .ins C s.heap.objs.size []) (t' := s.toks) (fun b u q => Heap.get?_push_of_some _ q) (Nat.le_of_eq (Heap.size_push _ _)) ?_
  have ne : s.heap.objs.size ≠ s.heap.objs.size + 1 := Nat.ne_of_lt (Nat.lt_succ_self _)
  refine ⟨by rw [upd_ne ne, upd_same], Nat.zero_le _, ne, e2, fun _ => none, (Heap.Ns1.of_empty e3).at fun o q => Heap.get?_push_of_some _ q, fun _ => True.intro, fun y hy => absurd rfl hy⟩

/-- e.f where nothing but the object is asked: through attributeBase (super) and the last hold -/
theorem attr_of {prog : Program} {w : World} {env : Env} {e : Expr} {f : Str} {pos : Pos} {s : Shared} {Q : Value → Shared → Prop} (hb : attributeBase e f env (eval e env) = eval e env)
    (h : wpAny (model prog w) A (eval e env) (fun o s₁ => wpAny (model prog w) A (getAttr o f true) Q E s₁) E s) : wpAny (model prog w) A (eval (.Attribute e f pos) env) Q E s :=
  Attribute_any_ h (by rw [arm_eval_Attribute, hb])
end

/-! ### readings and rules -/
/-- e.f, an attribute of the instance -/
def tFld (K : PySem.W.Frag) (ta : TE) (f : Str) : TE := fun σ H Q => ta σ H fun x H1 => ∃ a C dx fs v, x = .ref a ∧ H1 a = some (.ins C dx fs) ∧ Cls K C ∧ NoAttr K C f ∧ fs.lookup f = some v ∧ Q v H1
/-- e.f, a constant of the class -/
def tCon (K : PySem.W.Frag) (ta : TE) (f : Str) : TE := fun σ H Q => ta σ H fun x H1 => ∃ a C dx fs v u, x = .ref a ∧ H1 a = some (.ins C dx fs) ∧ Cls K C ∧ Con K C f v u ∧ fs.lookup f = none ∧ Q v H1
/-- e.f = value -/
def sFld (K : PySem.W.Frag) (ta tv : TE) (f : Str) : TS := fun D σ H => tv σ H fun y H1 => ta σ H1 fun x H2 => ∃ a C dx fs, x = .ref a ∧ H2 a = some (.ins C dx fs) ∧ Cls K C ∧ NoAttr K C f ∧ fs.length < 1000 ∧
  D.nx σ (upd H2 a (.ins C dx (putF f y fs)))
/-- an augmented operator on two values -/
def InOp (X : Cx) (op : Operator) (rd : V → V → Hp → VK → Prop) : Prop :=
  ∀ (pins : List (Addr × Obj)) (s : Shared) (σ : St) (H : Hp) (x y : V) (u v : Value) (Q : VK), Inv X pins σ H s → RelV x u → RelV y v → rd x y H Q → wpAny (model X.prog X.w) X.A (inplaceOp op u v) (EP X pins σ Q) X.xe s
/-- e.f op= value -/
def sFldAug (K : PySem.W.Frag) (ta tv : TE) (rd : V → V → Hp → VK → Prop) (f : Str) : TS := fun D σ H => ta σ H fun x H1 => ∃ a C dx fs v, x = .ref a ∧ H1 a = some (.ins C dx fs) ∧ Cls K C ∧ NoAttr K C f ∧ fs.lookup f = some v ∧
  tv σ H1 fun y H2 => rd v y H2 fun z H3 => ∃ dx' fs', H3 a = some (.ins C dx' fs') ∧ fs'.length < 1000 ∧ D.nx σ (upd H3 a (.ins C dx' (putF f z fs')))

section
variable {X : Cx} {o e value : Expr} {f : Str} {pos pos' tpos : Pos} {ta tv : TE}
theorem pe_fld (he : PE X e ta) (hb : attributeBase e f X.env (eval e X.env) = eval e X.env) : PE X (.Attribute e f pos) (tFld X.K ta f) := by
  intro pins s σ H Q I h
  refine attr_of hb (thn (he pins s σ H _ I h) fun u s1 ⟨x, H1, I1, rx, a, C, dx, fs, v, ex, ea, c, n, l, q⟩ => ?_)
  subst ex
  obtain rfl : u = Value.ref a := rx
  exact getattr_ok I1 ea c n l fun u' s2 I2 ru => ⟨v, H1, I2, ru, q⟩
theorem pe_con (he : PE X e ta) (hb : attributeBase e f X.env (eval e X.env) = eval e X.env) : PE X (.Attribute e f pos) (tCon X.K ta f) := by
  intro pins s σ H Q I h
  refine attr_of hb (thn (he pins s σ H _ I h) fun u s1 ⟨x, H1, I1, rx, a, C, dx, fs, v, u0, ex, ea, c, k, l, q⟩ => ?_)
  subst ex
  obtain rfl : u = Value.ref a := rx
  exact getcon_ok I1 ea c k l fun s2 I2 => ⟨v, H1, I2, k.rel, q⟩
theorem ps_fld (ha : PE X o ta) (hv : PE X value tv) (hs : swapsWith value (some (.Attribute o f pos')) pos.line X.env = pure false) : PS X (.Assign [.Attribute o f pos'] value pos) (sFld X.K ta tv f) := by
  intro pins s σ H D I h
  refine plainObj_wpAny_Assign_Attribute (thn (hv pins s σ H _ I h) fun u s1 ⟨y, H1, I1, ry, q⟩ => thn (ha pins s1 σ H1 _ I1 q) fun ov s2 ⟨x, H2, I2, rx, a, C, dx, fs, ex, ea, c, n, l, q2⟩ => ?_) hs
  subst ex
  obtain rfl : ov = Value.ref a := rx
  exact setattr_ok I2 ea c n l ry fun s3 I3 => ⟨σ, _, I3, q2⟩
theorem ps_fldaug {op : Operator} {rd : V → V → Hp → VK → Prop} (ha : PE X o ta) (hv : PE X value tv) (hop : InOp X op rd) : PS X (.AugAssign (.Attribute o f tpos) op value pos) (sFldAug X.K ta tv rd f) := by
  intro pins s σ H D I h
  refine wpAny_AugAssign_AttributeAny (thn (ha pins s σ H _ I h) fun ov s1 ⟨x, H1, I1, rx, a, C, dx, fs, v, ex, ea, c, n, l, q⟩ => ?_)
  subst ex
  obtain rfl : ov = Value.ref a := rx
  refine getattr_ok I1 ea c n l fun u s2 I2 ru => thn (hv pins s2 σ H1 _ I2 q) fun w3 s3 ⟨y, H2, I3, ry, q3⟩ => thn (hop pins s3 σ H2 v y u w3 _ I3 ru ry q3) fun w4 s4 ⟨z, H3, I4, rz, dx', fs', ea', l', q4⟩ => ?_
  exact setattr_ok I4 ea' c n l' rz fun s5 I5 => ⟨σ, _, I5, q4⟩
def rAdd : V → V → Hp → VK → Prop := fun x y H Q => ∃ i j, x = .int i ∧ y = .int j ∧ Q (.int (i + j)) H
def rSub : V → V → Hp → VK → Prop := fun x y H Q => ∃ i j, x = .int i ∧ y = .int j ∧ Q (.int (i - j)) H
theorem in_add : InOp X .Add rAdd := by
  rintro pins s σ H x y u v Q I rx ry ⟨i, j, rfl, rfl, q⟩
  obtain ⟨t, rfl⟩ := (show ∃ t, u = Value.int i t from rx)
  obtain ⟨t', rfl⟩ := (show ∃ t', v = Value.int j t' from ry)
  exact PyProof.Rows.iadd_int ⟨.int (i + j), H, I.tok _, ⟨_, rfl⟩, q⟩
theorem in_sub : InOp X .Sub rSub := by
  rintro pins s σ H x y u v Q I rx ry ⟨i, j, rfl, rfl, q⟩
  obtain ⟨t, rfl⟩ := (show ∃ t, u = Value.int i t from rx)
  obtain ⟨t', rfl⟩ := (show ∃ t', v = Value.int j t' from ry)
  exact PyProof.Rows.isub_int ⟨.int (i - j), H, I.tok _, ⟨_, rfl⟩, q⟩

/-- what is between an instance and its method: the tree of a method call -/
theorem methcall_of {pl : Sem Bool} {m : Str} {apos : Pos} {args : List Expr} {pins : List (Addr × Obj)} {s : Shared} {σ : St} {H : Hp} {Q : Value → Shared → Prop} {te : TE} (he : PE X e te) (I : Inv X pins σ H s)
    (h : te σ H fun x H1 => ∃ a C dx fs g, x = .ref a ∧ H1 a = some (.ins C dx fs) ∧ Cls X.K C ∧ Meth X.K C m g ∧ fs.lookup m = none ∧
      ∀ s1, Inv X pins σ H1 s1 → wpAny (model X.prog X.w) X.A (callWith pos (.ref g) [.ref a] (backTo pos (starEach args X.env)) (backToKw pos (keywordEach [] X.env))) Q X.xe s1)
    (ht : eval (.Call (.Attribute e m apos) args [] pos) X.env = (do
      let ov ← eval e X.env
      standAt apos.atName
      let (f, first) ← holding [ov] (getMethod ov m pl)
      callWith pos f first (backTo pos (starEach args X.env)) (backToKw pos (keywordEach [] X.env)))) :
    wpAny (model X.prog X.w) X.A (eval (.Call (.Attribute e m apos) args [] pos) X.env) Q X.xe s := by
  refine PySem.W.methodCall_KW (pl := pl) (thn (he pins s σ H _ I h) fun u s1 ⟨x, H1, I1, rx, a, C, dx, fs, g, ex, ea, c, k, l, q⟩ => ?_) ht
  subst ex
  obtain rfl : u = Value.ref a := rx
  exact getmeth_ok I1 ea c k l (q s1 I1)
end

/-! ### isinstance -/
section
variable {X : Cx} {pins : List (Addr × Obj)} {σ : St} {H : Hp} {s : Shared} {A : Around} {E : Value → Shared → Prop} {Q : Value → Shared → Prop} {c : Value} {b : Bool}
/-- the type of a value, as the fragment's deciders take it; for an instance its class -/
inductive TyOf (K : PySem.W.Frag) (H : Hp) : V → Value → Prop where
  | non : TyOf K H .non (.type "NoneType")
  | bl (x : Bool) : TyOf K H (.bl x) (.type "bool")
  | int (i : Int) : TyOf K H (.int i) (.type "int")
  | str (x : Str) : TyOf K H (.str x) (.type "str")
  | flt (x : UInt64) : TyOf K H (.flt x) (.type "float")
  | lst {a : Addr} {xs : List V} (e : H a = some (.lst xs)) : TyOf K H (.ref a) (.type "list")
  | frz {a : Addr} {o : Obj} {xs : List V} (e : H a = some (.frz o (.lst xs))) : TyOf K H (.ref a) (.type "list")
  | tup {a : Addr} {xs : List V} (e : H a = some (.tup xs)) : TyOf K H (.ref a) (.type "tuple")
  | dK {a : Addr} {kvs : List (Key × V)} (e : H a = some (.dK kvs)) : TyOf K H (.ref a) (.type "dict")
  | dT {a : Addr} {kvs : List (List Key × V)} (e : H a = some (.dT kvs)) : TyOf K H (.ref a) (.type "dict")
  | ins {a C dx : Addr} {fs : List (Str × V)} (e : H a = some (.ins C dx fs)) (cl : Cls K C) (ha : PySem.W.findIn K (.ref C) "__class__" = some (some (.builtin "object.__class__")))
      (hn : PySem.W.specialIn K (.builtin "object.__class__") "__get__" = some (some (.builtin "getset_descriptor.__get__"))) (htk : PySem.W.takesIn K (.builtin "object.__class__") = some true)
      (hm : PySem.W.mroIn K C (.type "object") = some true) : TyOf K H (.ref a) (.ref C)
/-- isinstance(x, c) for one class c, a built-in or an own one: kitOne's answer -/
theorem isinst_ok {x : V} {u t : Value} (I : Inv X pins σ H s) (rx : RelV x u) (ty : TyOf X.K H x t) (e : PySem.W.kitOne X.K t c = some b) (h : ∀ tk, Q (.bool b) { s with toks := tk }) :
    wpAny (model X.prog X.w) A (call (.builtin "isinstance") [u, c]) Q E s := by
  cases ty with
  | non => cases (show u = Value.none from rx); exact PySem.W.kia_one PySem.W.kitx_none I.kIn True.intro e (fun z => nomatch z) h
  | bl y => cases (show u = Value.bool y from rx); exact PySem.W.kia_one PySem.W.kitx_bool I.kIn True.intro e (fun z => nomatch z) h
  | int i => obtain ⟨t, q⟩ := (show ∃ t, u = Value.int i t from rx); cases q; exact PySem.W.kia_one PySem.W.kitx_int I.kIn True.intro e (fun z => nomatch z) h
  | str y => obtain ⟨t, q⟩ := (show ∃ t, u = Value.str y t from rx); cases q; exact PySem.W.kia_one PySem.W.kitx_str I.kIn True.intro e (fun z => nomatch z) h
  | flt y => obtain ⟨t, q⟩ := (show ∃ t, u = Value.float y t from rx); cases q; exact PySem.W.kia_one PySem.W.kitx_float I.kIn True.intro e (fun z => nomatch z) h
  | @lst a xs ea =>
    cases (show u = Value.ref a from rx)
    obtain ⟨_, _, n, _, h1⟩ := (show ObjOk X.prog X.w H s.heap a (.lst xs) from I.hok a _ ea)
    exact PySem.W.kia_one PySem.W.kitx_list I.kIn ⟨_, h1, rfl⟩ e (fun z => nomatch z) h
  | @frz a ob xs ea =>
    cases (show u = Value.ref a from rx)
    obtain ⟨_, _, _, n, _, h1⟩ := (show ObjOk X.prog X.w H s.heap a (.frz ob (.lst xs)) from I.hok a _ ea)
    exact PySem.W.kia_one PySem.W.kitx_list I.kIn ⟨_, h1, rfl⟩ e (fun z => nomatch z) h
  | @tup a xs ea =>
    cases (show u = Value.ref a from rx)
    obtain ⟨_, _, _, p⟩ := (show ObjOk X.prog X.w H s.heap a (.tup xs) from I.hok a _ ea)
    obtain ⟨o, h1, h2, _⟩ := p
    exact PySem.W.kia_one PySem.W.kitx_tuple I.kIn ⟨o, h1, h2⟩ e (fun z => nomatch z) h
  | @dK a kvs ea =>
    cases (show u = Value.ref a from rx)
    obtain ⟨_, _, vs, _, p⟩ := (show ObjOk X.prog X.w H s.heap a (.dK kvs) from I.hok a _ ea)
    obtain ⟨o, es, ep, h1, h2, _⟩ := p
    exact PySem.W.kia_one PySem.W.kitx_dict I.kIn ⟨o, h1, h2.1⟩ e (fun z => nomatch z) h
  | @dT a kvs ea =>
    cases (show u = Value.ref a from rx)
    obtain ⟨_, _, xs, _, o, es, ep, h1, h2, _⟩ := (show ObjOk X.prog X.w H s.heap a (.dT kvs) from I.hok a _ ea)
    exact PySem.W.kia_one PySem.W.kitx_dict I.kIn ⟨o, h1, h2.1⟩ e (fun z => nomatch z) h
  | @ins a C dx fs ea cl ha hn htk hm =>
    cases (show u = Value.ref a from rx)
    obtain ⟨mA, O, _⟩ := ins_get I.hok ea
    obtain ⟨od, J, _⟩ := O.look
    exact PySem.W.kia_one (PySem.W.kitx_own (cl.get _) cl.hd ha hn htk hm) I.kIn J e (fun z => nomatch z) h
end
end L2

namespace L2
open PySem PySem.Spec PyProof.Rows

/-! ### room -/
structure Room (k : Nat) (A : Around) : Prop where
  hd : A.handled = none
  dp : A.depth + 3 * k + 5 < recursionLimit
  un : A.units + 16 * k + 200 < cLine
  gd : A.guards = some []
theorem Room.mono {j k : Nat} {A : Around} (r : Room k A) (h : j ≤ k) : Room j A := ⟨r.hd, by have := r.dp; omega, by have := r.un; omega, r.gd⟩
theorem Room.deeper {k : Nat} {A : Around} (r : Room (k + 1) A) (env : Env) : Room k (A.deeper env) :=
  ⟨r.hd, by have := r.dp; show A.depth + 1 + 3 * k + 5 < _; omega, by have := r.un; show A.units + 3 + 16 * k + 200 < _; omega, r.gd⟩
theorem Room.in1 {k : Nat} {A : Around} (r : Room (k + 1) A) : Room k A.in1 :=
  ⟨r.hd, by have := r.dp; show A.depth + 3 * k + 5 < _; omega, by have := r.un; show A.units + 1 + 16 * k + 200 < _; omega, r.gd⟩
theorem make_depth {A : Around} {C : Addr} {us : List Value} {kw : List (Str × Value)} : (A.under (.builtin "type.__call__" ⟨.ref C :: us, kw⟩)).depth = A.depth + 1 := by
  first | rfl | simp [Around.under, Code.weight, Code.isCreation, Code.isGuard, Code.isCaller, Code.frames, Code.isFrame, guardIds]
theorem make_units {A : Around} {C : Addr} {us : List Value} {kw : List (Str × Value)} : (A.under (.builtin "type.__call__" ⟨.ref C :: us, kw⟩)).units = A.units + 1 := by
  first | rfl | simp [Around.under, Code.cUnits, Code.frames, Code.isFrame]
theorem Room.make {k : Nat} {A : Around} (r : Room (k + 1) A) (C : Addr) (us : List Value) (kw : List (Str × Value)) : Room k (A.under (.builtin "type.__call__" ⟨.ref C :: us, kw⟩)) :=
  ⟨r.hd, by have := r.dp; rw [make_depth]; omega, by have := r.un; rw [make_units]; omega, by first | exact r.gd | (simp [Around.under, Code.guards, Code.isGuard, guardIds, pushGuards]; exact r.gd)⟩
theorem Room.depth {k : Nat} {A : Around} (r : Room k A) : A.depth < recursionLimit := by have := r.dp; omega
theorem Room.units {k : Nat} {A : Around} (r : Room k A) : A.units + 64 < cLine := by have := r.un; omega
theorem Room.units0 {k : Nat} {A : Around} (r : Room k A) : A.units < cLine := by have := r.un; omega

/-! ### argument lists and displays -/
def tNil : TA := fun _ H Q => Q [] H
def tCons (ta : TE) (tr : TA) : TA := fun σ H Q => ta σ H fun x H1 => tr σ H1 fun xs H2 => Q (x :: xs) H2
section
variable {X : Cx} {e : Expr} {es : List Expr} {te : TE} {t : TA} {pos : Pos}
theorem pa_nil : PA X [] tNil := fun _ _ _ _ H Q I h => Calls.spliced_nil ⟨[], H, I, .nil, h⟩
theorem pa_cons (ha : PE X e te) (hr : PA X es t) (hs : starEach (e :: es) X.env = (false, eval e X.env) :: starEach es X.env := by rfl) : PA X (e :: es) (tCons te t) := by
  intro pos pins s σ H Q I h
  rw [hs]
  show wpAny _ _ (spliced ((false, eval e X.env) :: backTo pos (starEach es X.env))) _ _ s
  refine Calls.spliced_cons (thn (ha pins s σ H _ I h) fun u s1 ⟨x, H1, I1, r1, q1⟩ => ?_)
  exact thn (hr pos pins s1 σ H1 _ I1 q1) fun us s2 ⟨xs, H2, I2, r2, q2⟩ => ⟨x :: xs, H2, I2, .cons r1 r2, q2⟩

/-- a tuple, a list of written items -/
def tTup (t : TA) : TE := fun σ H Q => t σ H fun xs H1 => xs.length ≤ sizeLine ∧ ∀ p, H1 p = none → Q (.ref p) (upd H1 p (.tup xs))
def tLst (t : TA) : TE := fun σ H Q => t σ H fun xs H1 => xs.length ≤ sizeLine ∧ ∀ p, H1 p = none → Q (.ref p) (upd H1 p (.lst xs))
theorem pe_tup {x1} (h : PA X es t) : PE X (.Tuple es x1 pos) (tTup t) := by
  intro pins s σ H Q I hq
  refine wpAny_Tuple_spliced (thn (h pos pins s σ H _ I hq) fun us s1 ⟨xs, H1, I1, r, z, q⟩ => ⟨by rw [← r.length]; exact z, ?_⟩)
  have hf : H1 s1.heap.objs.size = none := I1.hok.fresh (Nat.le_refl _)
  refine ⟨.ref s1.heap.objs.size, upd H1 s1.heap.objs.size (.tup xs), I1.laid (t' := s1.toks) (fun b u e => Heap.get?_push_of_some _ e) (Nat.le_refl _) ?_, rfl, q _ hf⟩
  exact ⟨⟨z, _, Heap.get?_push_size _ rfl, rfl⟩, us, r, ⟨_, Heap.get?_push_size _ rfl, rfl, _, rfl⟩⟩
theorem pe_lst (h : PA X es t) : PE X (.List es pos) (tLst t) := by
  intro pins s σ H Q I hq
  refine wpAny_List_spliced (thn (h pos pins s σ H _ I hq) fun us s1 ⟨xs, H1, I1, r, z, q⟩ => ⟨by rw [← r.length]; exact z, ?_⟩)
  have hf : H1 s1.heap.objs.size = none := I1.hok.fresh (Nat.le_refl _)
  refine ⟨.ref s1.heap.objs.size, upd H1 s1.heap.objs.size (.lst xs), I1.laid (t' := s1.toks) (fun b u e => Heap.get?_push_of_some _ e) (Nat.le_refl _) ?_, rfl, q _ hf⟩
  exact ⟨z, us, 0, r, Heap.get?_push_size _ rfl⟩
end

/-! ### what a def promises -/
/-- a def's promise: the bound arguments in the parameters' order, the heap, the wanted end, the wanted exception -/
abbrev Sp := List V → Hp → VK → XK → Prop
/-- how an exception lies behind a call (file 08 gives it): the callers' frames, abstract heap and state ahead of the call, the wish, the exception, the state -/
abbrev CXT := List Env → Hp → Shared → XK → Value → Shared → Prop

/-- the state at a call -/
structure Env0 (P : Program) (w : World) (K : PySem.W.Frag) (mg : Str → Option Value) (base : Heap) (A : Around) (outer : List Env) (s : Shared) (H : Hp) : Prop where
  frames : A.frames = some outer
  mod : Mod K mg base
  bs : ∀ b o, base.get? b = some o → s.heap.get? b = some o ∧ H b = none
  bsz : base.objs.size ≤ s.heap.objs.size
  funs : s.heap.FunFrames base outer
  frf : ∀ b ∈ frs outer, H b = none
  hok : HOk P w H s.heap
  bare : AllBare s.gens
/-- a call's end -/
def CE (outer : List Env) (P : Program) (w : World) (H : Hp) (s : Shared) (Q : VK) (u : Value) (s' : Shared) : Prop :=
  ∃ v H', s'.os = s.os ∧ AllBare s'.gens ∧ Un (frs outer) [] H H' s.heap s'.heap ∧ HOk P w H' s'.heap ∧ RelV v u ∧ Q v H'
def CR (CX : CXT) (outer : List Env) (P : Program) (w : World) (H : Hp) (s : Shared) (Q : VK) (E : XK) (r : Result) (s' : Shared) : Prop :=
  match r with
  | .ok (.ret u) => CE outer P w H s Q u s'
  | .ok _ => False
  | .error e => CX outer H s E e s'
structure FnOk (P : Program) (w : World) (K : PySem.W.Frag) (mg : Str → Option Value) (base : Heap) (CX : CXT) (k : Nat) (f : Addr) (fd : FuncData) (ps : List Str) (sp : Sp) : Prop where
  len : ∀ vs H Q E, sp vs H Q E → vs.length = ps.length
  run : ∀ (A : Around) (outer : List Env) (s : Shared) (H : Hp) (args : Args) (us : List Value) (vs : List V) (Q : VK) (E : XK), Room k A → Env0 P w K mg base A outer s H → BindsTo s fd args (ps.zip us) → Vals vs us → sp vs H Q E →
    codeAny (model P w) A (.call (.ref f) args) (CR CX outer P w H s Q E) s
theorem FnOk.mono {P : Program} {w : World} {K : PySem.W.Frag} {mg : Str → Option Value} {base : Heap} {CX : CXT} {j k : Nat} {f : Addr} {fd : FuncData} {ps : List Str} {sp : Sp} (F : FnOk P w K mg base CX j f fd ps sp) (h : j ≤ k) :
    FnOk P w K mg base CX k f fd ps sp := ⟨F.len, fun A outer s H args us vs Q E hr => F.run A outer s H args us vs Q E (hr.mono h)⟩
/-- a weaker promise -/
theorem FnOk.imp {P : Program} {w : World} {K : PySem.W.Frag} {mg : Str → Option Value} {base : Heap} {CX : CXT} {k : Nat} {f : Addr} {fd : FuncData} {ps : List Str} {sp sp' : Sp} (F : FnOk P w K mg base CX k f fd ps sp)
    (h : ∀ vs H Q E, sp' vs H Q E → sp vs H Q E) : FnOk P w K mg base CX k f fd ps sp' :=
  ⟨fun vs H Q E q => F.len vs H Q E (h _ _ _ _ q), fun A outer s H args us vs Q E hr he hb hv hs => F.run A outer s H args us vs Q E hr he hb hv (h _ _ _ _ hs)⟩

theorem Env0.make {P : Program} {w : World} {K : PySem.W.Frag} {mg : Str → Option Value} {base : Heap} {A : Around} {outer : List Env} {s : Shared} {H : Hp} (e : Env0 P w K mg base A outer s H) (C : Addr) (us : List Value) (kw : List (Str × Value)) :
    Env0 P w K mg base (A.under (.builtin "type.__call__" ⟨.ref C :: us, kw⟩)) outer s H := ⟨by first | exact e.frames | (simpa [Around.under, Code.envs, Code.isFrame, pushEnvs] using e.frames), e.mod, e.bs, e.bsz, e.funs, e.frf, e.hok, e.bare⟩
theorem Env0.in1 {P : Program} {w : World} {K : PySem.W.Frag} {mg : Str → Option Value} {base : Heap} {A : Around} {outer : List Env} {s : Shared} {H : Hp} (e : Env0 P w K mg base A outer s H) :
    Env0 P w K mg base A.in1 outer s H := ⟨e.frames, e.mod, e.bs, e.bsz, e.funs, e.frf, e.hok, e.bare⟩

section
variable {X : Cx} {pins : List (Addr × Obj)} {σ : St} {H : Hp} {s s' : Shared}
/-- from a body: what a callee wants -/
theorem Inv.env0 (I : Inv X pins σ H s) : Env0 X.prog X.w X.K X.mg X.base X.A X.stack s H :=
  ⟨I.ok.frames, I.ok.mod, I.bs, Nat.le_trans I.ok.bsz I.sz, I.stack, I.stkFree, I.hok, I.bare⟩
/-- behind a call -/
theorem Inv.after {Q : VK} {u : Value} (I : Inv X pins σ H s) (h : CE X.stack X.prog X.w H s Q u s') : EP X pins σ Q u s' := by
  obtain ⟨v, H', os, bare, un, hok, r, q⟩ := h
  obtain ⟨hh, g, d, t, os'⟩ := s'
  obtain rfl : os' = s.os := os
  exact ⟨v, H', I.call (h' := hh) (g' := g) (d' := d) (t' := t) (ch := []) un hok bare (fun b z => absurd z (by simp)), r, q⟩
end

/-! ### calls -/
/-- f(..): the written arguments, then the defaults dvs; E: what is wanted of an exception -/
def tCall (sp : Sp) (dvs : List V) (E : XK) (t : TA) : TE := fun σ H Q => t σ H fun vs H1 => sp (vs ++ dvs) H1 Q E
/-- o.m(..) of an instance of the class at C -/
def tMeth (C : Addr) (m : Str) (sp : Sp) (dvs : List V) (E : XK) (ta : TE) (t : TA) : TE := fun σ H Q => ta σ H fun x H1 => ∃ a dx fs, x = .ref a ∧ H1 a = some (.ins C dx fs) ∧ fs.lookup m = none ∧
  t σ H1 fun vs H2 => sp (x :: (vs ++ dvs)) H2 Q E
/-- C(..): a new instance and its dict, then __init__ -/
def tMake (C : Addr) (sp : Sp) (dvs : List V) (E : XK) (t : TA) : TE := fun σ H Q => t σ H fun vs H1 => ∀ x dx, H1 x = none → H1 dx = none → dx ≠ x →
  sp (.ref x :: (vs ++ dvs)) (upd (upd H1 dx (.own x)) x (.ins C dx [])) (fun v H2 => v = .non ∧ Q (.ref x) H2) E

/-- how the parameters are bound: us the positional arguments, kw the keywords' values by name, ds the defaults that fill up -/
def Binds (K : PySem.W.Frag) (fd : FuncData) (ps : List Str) (ds : List Value) : Prop :=
  ∀ (s : Shared) (us : List Value), K.In s.heap → (us ++ ds).length = ps.length → BindsTo s fd ⟨us, []⟩ (ps.zip (us ++ ds))
/-- every parameter is given -/
theorem Binds.all {K : PySem.W.Frag} {fd : FuncData} {ps : List Str} (h : ∀ us : List Value, us.length = ps.length → bindArgs fd ⟨us, []⟩ = pure (ps.zip us)) : Binds K fd ps [] := fun s us _ hl => by
  rw [List.append_nil] at hl ⊢
  exact .of_eq (h us hl)

/-- an exception of a callee reaches what this body wants of exceptions -/
def Passes (CX : CXT) (X : Cx) (E : XK) : Prop := ∀ (pins : List (Addr × Obj)) (σ : St) (H : Hp) (s : Shared) (e : Value) (s' : Shared), Inv X pins σ H s → CX X.stack H s E e s' → X.xe e s'

section
variable {X : Cx} {CX : CXT} {k : Nat} {f C : Addr} {fd : FuncData} {ps : List Str} {sp : Sp} {dvs : List V} {ds : List Value} {E : XK} {x m : Str} {p pos apos : Pos} {e o : Expr} {es : List Expr} {ta : TE} {t : TA}

/-- the callee runs -/
theorem run_fn {pins : List (Addr × Obj)} {σ : St} {H : Hp} {s : Shared} {Q : VK} {us : List Value} {vs : List V} (F : FnOk X.prog X.w X.K X.mg X.base CX k f fd ps sp) (hr : Room k X.A) (hb : Binds X.K fd ps ds) (hd : Vals dvs ds) (hx : Passes CX X E)
    (I : Inv X pins σ H s) (r : Vals vs us) (h : sp (vs ++ dvs) H Q E) : wpAny (model X.prog X.w) X.A (call (.ref f) us) (EP X pins σ Q) X.xe s := by
  have r2 : Vals (vs ++ dvs) (us ++ ds) := r.append hd
  have hl : (us ++ ds).length = ps.length := by rw [← r2.length]; exact F.len _ _ _ _ h
  refine wpAny_call (codeAny_mono (F.run X.A X.stack s H ⟨us, []⟩ (us ++ ds) (vs ++ dvs) Q E hr I.env0 (hb s us I.kIn hl) r2 h) fun r s' hq => ?_)
  cases r with
  | error e => exact hx pins σ H s e s' I hq
  | ok fl =>
    cases fl with
    | ret u => exact I.after hq
    | next => exact False.elim hq
    | brk => exact False.elim hq
    | cont => exact False.elim hq

theorem pe_call (F : FnOk X.prog X.w X.K X.mg X.base CX k f fd ps sp) (hr : Room k X.A) (hg : Gl X x) (hm : X.mg x = some (.ref f)) (hk : PySem.W.keepIn X.K (.ref f) = true) (hb : Binds X.K fd ps ds) (hd : Vals dvs ds) (hx : Passes CX X E)
    (ha : PA X (e :: es) t) (hdb : (x == ("__debug__" : Str)) = false := by decide) (he : starEach (e :: es) X.env = (false, eval e X.env) :: starEach es X.env := by rfl) (hpl : (backTo pos (starEach es X.env)).any (·.1) = false := by rfl) :
    PE X (.Call (.Name x p) (e :: es) [] pos) (tCall sp dvs E t) := by
  intro pins s σ H Q I h
  refine wpAny_Call_Name_kw (ld_glob I hg hm ?_ hdb)
  refine PySem.W.callWith_K (h₀ := X.base) I.ok.mod.kin hk (thn (ha pos pins s σ H _ I h) fun us s1 ⟨vs, H1, I1, r, q⟩ => ⟨I1.kIn, ?_⟩) he hpl
  exact run_fn F hr hb hd hx I1 r q
theorem pe_call0 (F : FnOk X.prog X.w X.K X.mg X.base CX k f fd ps sp) (hr : Room k X.A) (hg : Gl X x) (hm : X.mg x = some (.ref f)) (hk : PySem.W.keepIn X.K (.ref f) = true) (hb : Binds X.K fd ps ds) (hd : Vals dvs ds) (hx : Passes CX X E)
    (hdb : (x == ("__debug__" : Str)) = false := by decide) : PE X (.Call (.Name x p) [] [] pos) (tCall sp dvs E tNil) := by
  intro pins s σ H Q I h
  refine wpAny_Call_Name_kw (ld_glob I hg hm ?_ hdb)
  exact PySem.W.callWith_K0 I.kIn hk (run_fn (us := []) F hr hb hd hx I .nil h)

/-- o.m(e, ..) -/
theorem pe_meth {pl : Sem Bool} (he : PE X o ta) (c : Cls X.K C) (hm : Meth X.K C m f) (F : FnOk X.prog X.w X.K X.mg X.base CX k f fd ps sp) (hr : Room k X.A) (hb : Binds X.K fd ps ds) (hd : Vals dvs ds) (hx : Passes CX X E) (ha : PA X (e :: es) t)
    (hst : starEach (e :: es) X.env = (false, eval e X.env) :: starEach es X.env := by rfl) (hpl : (backTo pos (starEach es X.env)).any (·.1) = false := by rfl)
    (ht : eval (.Call (.Attribute o m apos) (e :: es) [] pos) X.env = (do
      let ov ← eval o X.env
      standAt apos.atName
      let (f, first) ← holding [ov] (getMethod ov m pl)
      callWith pos f first (backTo pos (starEach (e :: es) X.env)) (backToKw pos (keywordEach [] X.env))) := by rfl) :
    PE X (.Call (.Attribute o m apos) (e :: es) [] pos) (tMeth C m sp dvs E ta t) := by
  intro pins s σ H Q I h
  refine PySem.W.methodCall_KW (pl := pl) (thn (he pins s σ H _ I h) fun u s1 ⟨x, H1, I1, rx, a, dx, fs, ex, ea, l, q⟩ => ?_) ht
  subst ex
  obtain rfl : u = Value.ref a := rx
  refine getmeth_ok I1 ea c hm l ?_
  refine PySem.W.callWith_K (first := [.ref a]) (h₀ := X.base) I.ok.mod.kin hm.kp (thn (ha pos pins s1 σ H1 _ I1 q) fun us s2 ⟨vs, H2, I2, r, q2⟩ => ⟨I2.kIn, ?_⟩) hst hpl
  exact run_fn (us := .ref a :: us) (vs := .ref a :: vs) F hr hb hd hx I2 (.cons rfl r) q2
/-- o.m() -/
theorem pe_meth0 {pl : Sem Bool} (he : PE X o ta) (c : Cls X.K C) (hm : Meth X.K C m f) (F : FnOk X.prog X.w X.K X.mg X.base CX k f fd ps sp) (hr : Room k X.A) (hb : Binds X.K fd ps ds) (hd : Vals dvs ds) (hx : Passes CX X E)
    (ht : eval (.Call (.Attribute o m apos) [] [] pos) X.env = (do
      let ov ← eval o X.env
      standAt apos.atName
      let (f, first) ← holding [ov] (getMethod ov m pl)
      callWith pos f first (backTo pos (starEach [] X.env)) (backToKw pos (keywordEach [] X.env))) := by rfl) :
    PE X (.Call (.Attribute o m apos) [] [] pos) (tMeth C m sp dvs E ta tNil) := by
  intro pins s σ H Q I h
  refine PySem.W.methodCall_KW (pl := pl) (thn (he pins s σ H _ I h) fun u s1 ⟨x, H1, I1, rx, a, dx, fs, ex, ea, l, q⟩ => ?_) ht
  subst ex
  obtain rfl : u = Value.ref a := rx
  refine getmeth_ok I1 ea c hm l ?_
  exact PySem.W.callWith_K0 (first := [.ref a]) I1.kIn hm.kp (run_fn (us := [.ref a]) (vs := [.ref a]) F hr hb hd hx I1 (.cons rfl .nil) q)

/-- what a class must have to be made -/
structure Mk (K : PySem.W.Frag) (C f : Addr) : Prop where
  makes : PySem.W.makesIn K C = true
  init : PySem.W.findIn K (.ref C) "__init__" = some (some (.ref f))
  fn : PySem.W.isFn K (.ref f) = true
  kp : PySem.W.keepIn K (.ref C) = true

theorem run_make {pins : List (Addr × Obj)} {σ : St} {H : Hp} {s : Shared} {Q : VK} {us : List Value} {vs : List V} (M : Mk X.K C f) (F : FnOk X.prog X.w X.K X.mg X.base CX k f fd ps sp) (hr : Room (k + 1) X.A) (hb : Binds X.K fd ps ds) (hd : Vals dvs ds)
    (hx : Passes CX X E) (I : Inv X pins σ H s) (r : Vals vs us)
    (h : ∀ x dx, H x = none → H dx = none → dx ≠ x → sp (.ref x :: (vs ++ dvs)) (upd (upd H dx (.own x)) x (.ins C dx [])) (fun v H2 => v = .non ∧ Q (.ref x) H2) E) :
    wpAny (model X.prog X.w) X.A (call (.ref C) us) (EP X pins σ Q) X.xe s := by
  have hq := h (s.heap.objs.size + 1) s.heap.objs.size (I.hok.fresh (Nat.le_succ _)) (I.hok.fresh (Nat.le_refl _)) (Nat.ne_of_lt (Nat.lt_succ_self _))
  have I2 := Inv.made (C := C) I
  have r2 : Vals (V.ref (s.heap.objs.size + 1) :: (vs ++ dvs)) (Value.ref (s.heap.objs.size + 1) :: (us ++ ds)) := .cons rfl (r.append hd)
  have hl : (Value.ref (s.heap.objs.size + 1) :: us ++ ds).length = ps.length := by
    have e := r2.length
    rw [F.len _ _ _ _ hq] at e
    exact e.symm
  refine wpAny_call (make_map (f := f) I.kIn M.makes M.init (beq_iff_eq.mp M.fn) (codeAny_mono (F.run _ X.stack _ _ ⟨Value.ref (s.heap.objs.size + 1) :: us, []⟩ (Value.ref (s.heap.objs.size + 1) :: (us ++ ds)) _ _ E (hr.make C us [])
    (I2.env0.make C us []) (hb _ (Value.ref (s.heap.objs.size + 1) :: us) I2.kIn hl) r2 hq) fun r s' hq' => ?_))
  cases r with
  | error e => exact hx pins σ _ _ e s' I2 hq'
  | ok fl =>
    cases fl with
    | ret u =>
      obtain ⟨v, H', I3, rv, ev, q3⟩ := I2.after hq'
      subst ev
      exact ⟨rv, ⟨V.ref (s.heap.objs.size + 1), H', I3, rfl, q3⟩⟩
    | next => exact False.elim hq'
    | brk => exact False.elim hq'
    | cont => exact False.elim hq'
theorem pe_make (M : Mk X.K C f) (F : FnOk X.prog X.w X.K X.mg X.base CX k f fd ps sp) (hr : Room (k + 1) X.A) (hg : Gl X x) (hm : X.mg x = some (.ref C)) (hb : Binds X.K fd ps ds) (hd : Vals dvs ds) (hx : Passes CX X E)
    (ha : PA X (e :: es) t) (hdb : (x == ("__debug__" : Str)) = false := by decide) (he : starEach (e :: es) X.env = (false, eval e X.env) :: starEach es X.env := by rfl) (hpl : (backTo pos (starEach es X.env)).any (·.1) = false := by rfl) :
    PE X (.Call (.Name x p) (e :: es) [] pos) (tMake C sp dvs E t) := by
  intro pins s σ H Q I h
  refine wpAny_Call_Name_kw (ld_glob I hg hm ?_ hdb)
  refine PySem.W.callWith_K (h₀ := X.base) I.ok.mod.kin M.kp (thn (ha pos pins s σ H _ I h) fun us s1 ⟨vs, H1, I1, r, q⟩ => ⟨I1.kIn, ?_⟩) he hpl
  exact run_make M F hr hb hd hx I1 r q
theorem pe_make0 (M : Mk X.K C f) (F : FnOk X.prog X.w X.K X.mg X.base CX k f fd ps sp) (hr : Room (k + 1) X.A) (hg : Gl X x) (hm : X.mg x = some (.ref C)) (hb : Binds X.K fd ps ds) (hd : Vals dvs ds) (hx : Passes CX X E)
    (hdb : (x == ("__debug__" : Str)) = false := by decide) : PE X (.Call (.Name x p) [] [] pos) (tMake C sp dvs E tNil) := by
  intro pins s σ H Q I h
  refine wpAny_Call_Name_kw (ld_glob I hg hm ?_ hdb)
  exact PySem.W.callWith_K0 I.kIn M.kp (run_make (us := []) M F hr hb hd hx I .nil h)
end

/-! ### keywords -/
/-- the values of the keywords, from the left -/
def PK (X : Cx) (kws : List Keyword) (t : TA) : Prop :=
  ∀ (pos : Pos) (pins : List (Addr × Obj)) (s : Shared) (σ : St) (H : Hp) (Q : List V → Hp → Prop), Inv X pins σ H s → t σ H Q → wpAny (model X.prog X.w) X.A (evalAll ((backToKw pos (keywordEach kws X.env)).map (·.2))) (AP X pins σ Q) X.xe s
section
variable {X : Cx} {CX : CXT} {k : Nat} {f C : Addr} {fd : FuncData} {ps ks : List Str} {sp : Sp} {E : XK} {x m : Str} {p pos apos kpos : Pos} {e o : Expr} {es : List Expr} {kws : List Keyword} {te ta : TE} {t tk : TA} {nm : Option Str}
theorem pk_nil : PK X [] tNil := fun _ _ _ _ H Q I h => wpAny_evalAll_nil ⟨[], H, I, .nil, h⟩
theorem pk_cons (ha : PE X e te) (hr : PK X kws t) : PK X (⟨nm, e, kpos⟩ :: kws) (tCons te t) := by
  intro pos pins s σ H Q I h
  show wpAny _ _ (evalAll ((do let v ← eval e X.env; standAt pos; pure v) :: (backToKw pos (keywordEach kws X.env)).map (·.2))) _ _ s
  refine wpAny_evalAll_cons (wpAny_bind (thn (ha pins s σ H _ I h) fun u s1 ⟨x, H1, I1, r1, q1⟩ => wpAny_bind (wpAny_standAt (wpAny_pure ?_))))
  exact thn (hr pos pins s1 σ H1 _ I1 q1) fun us s2 ⟨xs, H2, I2, r2, q2⟩ => ⟨x :: xs, H2, I2, .cons r1 r2, q2⟩

/-- how a call with keywords binds: g puts the positional values us and the keywords' values ws (names ks) in the parameters' order, defaults among them -/
structure KBinds (K : PySem.W.Frag) (fd : FuncData) (ps ks : List Str) (g : List Value → List Value → List Value) (gV : List V → List V → List V) : Prop where
  to : ∀ (s : Shared) (us ws : List Value), K.In s.heap → (g us ws).length = ps.length → BindsTo s fd ⟨us, ks.zip ws⟩ (ps.zip (g us ws))
  rel : ∀ {vs : List V} {us : List Value} {zs : List V} {ws : List Value}, Vals vs us → Vals zs ws → Vals (gV vs zs) (g us ws)
def tCallK (sp : Sp) (gV : List V → List V → List V) (E : XK) (t tk : TA) : TE := fun σ H Q => t σ H fun vs H1 => tk σ H1 fun zs H2 => sp (gV vs zs) H2 Q E
variable {g : List Value → List Value → List Value} {gV : List V → List V → List V}
theorem run_fnk {pins : List (Addr × Obj)} {σ : St} {H : Hp} {s : Shared} {Q : VK} {us ws : List Value} {vs zs : List V} (F : FnOk X.prog X.w X.K X.mg X.base CX k f fd ps sp) (hr : Room k X.A) (hb : KBinds X.K fd ps ks g gV) (hx : Passes CX X E)
    (I : Inv X pins σ H s) (r : Vals vs us) (rz : Vals zs ws) (h : sp (gV vs zs) H Q E) : wpAny (model X.prog X.w) X.A (call (.ref f) us (ks.zip ws)) (EP X pins σ Q) X.xe s := by
  have r2 := hb.rel r rz
  have hl : (g us ws).length = ps.length := by rw [← r2.length]; exact F.len _ _ _ _ h
  refine wpAny_call (codeAny_mono (F.run X.A X.stack s H ⟨us, ks.zip ws⟩ (g us ws) (gV vs zs) Q E hr I.env0 (hb.to s us ws I.kIn hl) r2 h) fun r s' hq => ?_)
  cases r with
  | error e => exact hx pins σ H s e s' I hq
  | ok fl =>
    cases fl with
    | ret u => exact I.after hq
    | next => exact False.elim hq
    | brk => exact False.elim hq
    | cont => exact False.elim hq
/-- f(e, .., k = v, ..) -/
theorem pe_callK (F : FnOk X.prog X.w X.K X.mg X.base CX k f fd ps sp) (hr : Room k X.A) (hg : Gl X x) (hm : X.mg x = some (.ref f)) (hk : PySem.W.keepIn X.K (.ref f) = true) (hb : KBinds X.K fd ps ks g gV) (hx : Passes CX X E)
    (ha : PA X (e :: es) t) (hkw : PK X kws tk) (hall : (backToKw pos (keywordEach kws X.env)).all (·.1.isSome) = true := by rfl) (hks : (backToKw pos (keywordEach kws X.env)).filterMap (·.1) = ks := by rfl)
    (hdb : (x == ("__debug__" : Str)) = false := by decide) (he : starEach (e :: es) X.env = (false, eval e X.env) :: starEach es X.env := by rfl)
    (hpl : ((backTo pos (starEach (e :: es) X.env)).any (·.1) || (backToKw pos (keywordEach kws X.env)).any (·.1.isNone)) = false := by rfl) :
    PE X (.Call (.Name x p) (e :: es) kws pos) (tCallK sp gV E t tk) := by
  intro pins s σ H Q I h
  refine wpAny_Call_Name_kw (ld_glob I hg hm ?_ hdb)
  refine PySem.W.callWith_KW (h₀ := X.base) I.ok.mod.kin hk hall (thn (ha pos pins s σ H _ I h) fun us s1 ⟨vs, H1, I1, r, q⟩ => ?_) hpl he
  refine thn (hkw pos pins s1 σ H1 _ I1 q) fun ws s2 ⟨zs, H2, I2, rz, q2⟩ => ⟨I2.kIn, ?_⟩
  rw [hks]
  exact run_fnk F hr hb hx I2 r rz q2
end

/-! ### a def's body keeps its promise -/
/-- names: the parameters first -/
structure FnScope (N P : List Str) (sc : Scope) : Prop where
  kind : sc.kind = .function
  co : sc.isCoroutine = false
  gen : sc.isGenerator = false
  nd : N.Nodup
  pre : N.take P.length = P
  par : ∀ x ∈ P, sc.names.lookup x = some .local ∨ sc.names.lookup x = some .cell
  nofree : ∀ y ∈ sc.names, y.2 ≠ .free

theorem bindL_out {kindOf : Str → Option NameKind} {x : Str} : ∀ {binds : List (Str × Value)} {m : Str → Option Value}, (∀ v, (x, v) ∉ binds) → bindL kindOf binds m x = m x
  | [], _, _ => rfl
  | (n, v) :: r, m, h => by
    unfold bindL
    rw [bindL_out fun w hw => h w (List.mem_cons_of_mem _ hw)]
    split
    · have : x ≠ n := by rintro rfl; exact h v List.mem_cons_self
      simp [this]
    · rfl
theorem bindC_out {kindOf : Str → Option NameKind} {x : Str} : ∀ {binds : List (Str × Value)} {m : Str → Option Value}, (∀ v, (x, v) ∉ binds) → bindC kindOf binds m x = m x
  | [], _, _ => rfl
  | (n, v) :: r, m, h => by
    unfold bindC
    rw [bindC_out fun w hw => h w (List.mem_cons_of_mem _ hw)]
    split
    · rfl
    · have : x ≠ n := by rintro rfl; exact h v List.mem_cons_self
      simp [this]
theorem bindL_get {kindOf : Str → Option NameKind} {x : Str} {v : Value} : ∀ {P : List Str} {vs : List Value} {i : Nat} {m : Str → Option Value}, P.Nodup → P[i]? = some x → vs[i]? = some v → kindOf x = some .local →
    bindL kindOf (P.zip vs) m x = some v
  | [], _, _, _, _, h, _, _ => by simp at h
  | _ :: _, [], _, _, _, _, h, _ => by simp at h
  | p :: P, w :: vs, 0, m, nd, h1, h2, hk => by
    simp at h1 h2; subst h1; subst h2
    show bindL kindOf ((p, w) :: P.zip vs) m p = _
    unfold bindL
    rw [bindL_out fun v hv => (List.nodup_cons.mp nd).1 (List.of_mem_zip hv).1, if_pos hk]
    simp
  | p :: P, w :: vs, i + 1, m, nd, h1, h2, hk => by
    show bindL kindOf ((p, w) :: P.zip vs) m x = _
    unfold bindL
    exact bindL_get (i := i) (List.nodup_cons.mp nd).2 (by simpa using h1) (by simpa using h2) hk
theorem bindC_get {kindOf : Str → Option NameKind} {x : Str} {v : Value} : ∀ {P : List Str} {vs : List Value} {i : Nat} {m : Str → Option Value}, P.Nodup → P[i]? = some x → vs[i]? = some v → kindOf x ≠ some .local →
    bindC kindOf (P.zip vs) m x = some v
  | [], _, _, _, _, h, _, _ => by simp at h
  | _ :: _, [], _, _, _, _, h, _ => by simp at h
  | p :: P, w :: vs, 0, m, nd, h1, h2, hk => by
    simp at h1 h2; subst h1; subst h2
    show bindC kindOf ((p, w) :: P.zip vs) m p = _
    unfold bindC
    rw [bindC_out fun v hv => (List.nodup_cons.mp nd).1 (List.of_mem_zip hv).1, if_neg hk]
    simp
  | p :: P, w :: vs, i + 1, m, nd, h1, h2, hk => by
    show bindC kindOf ((p, w) :: P.zip vs) m x = _
    unfold bindC
    exact bindC_get (i := i) (List.nodup_cons.mp nd).2 (by simpa using h1) (by simpa using h2) hk

/-- the names' values at the entry -/
def start (N : List Str) (vs : List V) : St := vs.map some ++ List.replicate (N.length - vs.length) none

/-- the context of a def's body, at its entry; an exception leaves the frame, then lies as CX says -/
def cxOf (CX : CXT) (P : Program) (w : World) (K : PySem.W.Frag) (mg : Str → Option Value) (base : Heap) (N : List Str) (qual : Str) (scope : Scope) (f : Addr) (cd : Value) (A : Around) (outer : List Env) (s : Shared) (H : Hp) (E : XK) : Cx where
  prog := P
  w := w
  K := K
  mg := mg
  base := base
  A := A.deeper (envOfC qual scope s.heap.objs.size f cd)
  N := N
  s₀ := s
  H₀ := H
  env := envOfC qual scope s.heap.objs.size f cd
  outer := outer
  stack := envOfC qual scope s.heap.objs.size f cd :: outer
  ex := []
  calm := true
  fn := fun _ => true
  pn := []
  xe := fun e s' => wpAny (model P w) (A.deeper (envOfC qual scope s.heap.objs.size f cd)) (leaving (envOfC qual scope s.heap.objs.size f cd) e) (fun _ s'' => CX outer H s E e s'') (fun e' s'' => CX outer H s E e' s'') s'

theorem cell_has {sc : Scope} {n : Nat} {x : Str} (h : sc.names.lookup x = some .cell) : ∃ c, (cellsFrom n sc.names []).lookup x = some c := by
  have q := PySem.W.cellsFrom_some sc.names n [] (.inl h)
  exact Option.isSome_iff_exists.mp q

theorem inv_start {CX : CXT} {P : Program} {w : World} {K : PySem.W.Frag} {mg : Str → Option Value} {base : Heap} {N ps : List Str} {qual : Str} {scope : Scope} {f : Addr} {cd : Value} {A : Around} {outer : List Env} {s s1 : Shared} {H : Hp} {E : XK} {us : List Value} {vs : List V}
    (S : FnScope N ps scope) (hd : A.handled = none) (e0 : Env0 P w K mg base A outer s H) (hl : vs.length = ps.length) (r : Vals vs us)
    (x : InCallC s s.heap.objs.size (bindL (envOfC qual scope s.heap.objs.size f cd).kindOf (ps.zip us) fun _ => none) (cellsFrom (s.heap.objs.size + 1) scope.names []) (bindC (envOfC qual scope s.heap.objs.size f cd).kindOf (ps.zip us) fun _ => none) s1) :
    Inv (cxOf CX P w K mg base N qual scope f cd A outer s H E) [] (start N vs) H s1 := by
  have hpl : ps.length ≤ N.length := by have := congrArg List.length S.pre; rw [List.length_take] at this; omega
  obtain ⟨h1, tk, rfl, hk⟩ := x.done
  have noA : ∀ b : Addr, b ∉ (cxOf CX P w K mg base N qual scope f cd A outer s H E).ex := fun b z => absurd (show b ∈ ([] : List Addr) from z) (by simp)
  refine ⟨⟨e0.mod, S.kind, rfl, rfl, Nat.le_refl _, fun y z c h1 h2 => ?_, fun y hy => ?_, fun y c _ h => ?_, fun _ => hd, Around.frames_deeper e0.frames, .inr ⟨rfl, rfl⟩, fun b z => absurd z (noA b), e0.bs, e0.bsz, fun b _ _ => noA b, fun b z => absurd z (noA b), e0.funs, e0.frf⟩,
    rfl, e0.bare, Un.kept hk, ⟨_, x.toInCall.ns, fun i y v h1 h2 h3 => ?_⟩, fun y c h => ⟨_, x.cell y c h⟩, e0.hok.fresh (Nat.le_refl _), fun y c h => ?_, fun p hp => absurd (show p ∈ ([] : List (Addr × Obj)) from hp) (by simp), e0.hok.kept hk, ?_⟩
  · exact name_of_addr x.apart (PySem.mem_of_lookup h1) (PySem.mem_of_lookup h2)
  · have hy : scope.names.lookup y = some .cell ∨ scope.names.lookup y = some .free := hy
    rcases hy with hy | hy
    · exact cell_has hy
    · exact absurd rfl (S.nofree _ (PySem.mem_of_lookup hy))
  · exact Nat.le_of_lt (x.above y c (PySem.mem_of_lookup h))
  · have hi : i < vs.length := by
      unfold start at h2
      by_cases hi : i < vs.length
      · exact hi
      · rw [List.getElem?_append_right (by simpa using hi)] at h2
        rw [List.getElem?_replicate] at h2
        split at h2 <;> cases h2
    have ha : vs[i]? = some v := by
      unfold start at h2
      rw [List.getElem?_append_left (by simpa using hi), List.getElem?_map] at h2
      cases e : vs[i]? with
      | none => rw [e] at h2; cases h2
      | some a => rw [e] at h2; cases h2; rfl
    obtain ⟨u, hu, rv⟩ := r.get ha
    have hp : ps[i]? = some y := by
      rw [← S.pre, List.getElem?_take_of_lt (by omega)]; exact h1
    have ndP : ps.Nodup := by rw [← S.pre]; exact S.nd.sublist (List.take_sublist _ _)
    refine ⟨u, rv, ?_⟩
    rcases S.par y (List.mem_of_getElem? hp) with k | k
    · exact .inl ⟨k, bindL_get ndP hp hu k⟩
    · obtain ⟨c, e⟩ := cell_has (n := s.heap.objs.size + 1) k
      refine .inr ⟨.inl k, c, e, ?_⟩
      have q := x.cell y c e
      rw [bindC_get ndP hp hu (by show scope.names.lookup y ≠ _; rw [k]; decide)] at q
      exact q
  · exact e0.hok.fresh (Nat.le_of_lt (x.above y c (PySem.mem_of_lookup h)))
  · unfold start
    show _ = N.length
    rw [List.length_append, List.length_map, List.length_replicate]
    omega

/-- THE RULE: a def (or a method) of the text, by its body. The body's reading t is chosen for each entry; it is run at the parameters' values -/
theorem fn_of {CX : CXT} {P : Program} {w : World} {K : PySem.W.Frag} {mg : Str → Option Value} {base : Heap} {k : Nat} {f : Addr} {name qual : Str} {params : Arguments} {body : List Stmt} {scope : Scope} {dV kV doc pm cdv ct oc : Value} {an od : Option Addr}
    {osl : Array (Option Value)} {N ps : List Str} {sp : Sp} (lk : K.lookup f = some ⟨oc, od, .func (PySem.W.fnOf name qual params body scope dV kV doc pm an cdv ct), osl⟩) (hcd : PySem.W.codeIn K cdv qual = true) (S : FnScope N ps scope)
    (len : ∀ vs H Q E, sp vs H Q E → vs.length = ps.length)
    (hbody : ∀ (A : Around) (outer : List Env) (s : Shared) (H : Hp) (vs : List V) (Q : VK) (E : XK), Room k (A.deeper (envOfC qual scope s.heap.objs.size f cdv)) → sp vs H Q E →
      ∃ t, PSs (cxOf CX P w K mg base N qual scope f cdv A outer s H E) body t ∧ t { nx := fun _ H' => Q .non H', rt := Q } (start N vs) H) :
    FnOk P w K mg base CX (k + 1) f (PySem.W.fnOf name qual params body scope dV kV doc pm an cdv ct) ps sp := by
  refine ⟨len, fun A outer s H args us vs Q E hr e0 hb r hsp => ?_⟩
  have hl := len _ _ _ _ hsp
  have KX : K.In s.heap := e0.mod.kin.keeps fun b o e => (e0.bs b o e).1
  have lim : s.heap.NoLimit := e0.mod.nolimit.keeps fun b o e => (e0.bs b o e).1
  have hkind : ∀ y ∈ ps.zip us, scope.names.lookup y.1 = some .local ∨ (scope.names.lookup y.1 = some .cell ∧ ((cellsFrom (s.heap.objs.size + 1) scope.names []).lookup y.1).isSome = true) := fun ⟨n, v⟩ hy => by
    rcases S.par n (List.of_mem_zip hy).1 with q | q
    · exact .inl q
    · exact .inr ⟨q, PySem.W.cellsFrom_some _ _ _ (.inl q)⟩
  refine codeAny_call_function hr.depth (KX _ _ lk) rfl S.co S.gen rfl (PySem.W.codeRec_of KX hcd) (hb _ _ _ _ ?_)
  refine wpAny_newFunctionEnv_cells S.kind hkind fun env he s1 x => ?_
  subst he
  refine ⟨lim.keeps x.toInCall.keep, codeAny_func ?_⟩
  obtain ⟨t, ht, hq⟩ := hbody A outer s H vs Q E (hr.deeper _) hsp
  have I : Inv (cxOf CX P w K mg base N qual scope f cdv A outer s H E) [] (start N vs) H s1 := inv_start S hr.hd e0 hl r x
  refine wpAny_mono (ht [] s1 (start N vs) H _ I hq) (fun fl s' hs => ?_) fun e s' hs => hs
  have fin : ∀ {σ' : St} {H' : Hp} {v : V} {u : Value}, Inv (cxOf CX P w K mg base N qual scope f cdv A outer s H E) [] σ' H' s' → RelV v u → Q v H' → CE outer P w H s Q u s' :=
    fun {σ' H' v u} J rv q => ⟨v, H', J.os, J.bare, J.base, J.hok, rv, q⟩
  cases fl with
  | ret u =>
    obtain ⟨v, σ', H', J, rv, q⟩ := hs
    exact fin J rv q
  | next =>
    obtain ⟨σ', H', J, q⟩ := hs
    exact fin (v := V.non) (u := Value.none) J rfl q
  | brk =>
    obtain ⟨_, _, _, q⟩ := hs
    exact False.elim q
  | cont =>
    obtain ⟨_, _, _, q⟩ := hs
    exact False.elim q
end L2

namespace L2
open PySem PySem.Spec PyProof.Rows
section
variable {X : Cx} {x : Str} {p pos : Pos} {e : Expr} {es : List Expr} {t : TA} {id T : String} {r : List V → Hp → VK → Prop}

def tCB (r : List V → Hp → VK → Prop) (t : TA) : TE := fun σ H Q => t σ H fun vs H1 => r vs H1 Q
/-- f(e, ..), f a built-in function -/
theorem pe_callB (hc : CallR X (.builtin id) r) (hg : Gl X x) (hm : X.mg x = none) (hv : bootBuiltins x = some (.builtin id)) (ha : PA X (e :: es) t) (hn : x ≠ "__name__" := by decide) (hdb : (x == ("__debug__" : Str)) = false := by decide)
    (he : starEach (e :: es) X.env = (false, eval e X.env) :: starEach es X.env := by rfl) (hpl : (backTo pos (starEach es X.env)).any (·.1) = false := by rfl) : PE X (.Call (.Name x p) (e :: es) [] pos) (tCB r t) := by
  intro pins s σ H Q I h
  refine wpAny_Call_Name_kw (ld_blt I hg hm hv ?_ hn hdb)
  exact PyProof.Rows.callWith_builtin1 (thn (ha pos pins s σ H _ I h) fun us s1 ⟨vs, H1, I1, r1, q1⟩ => hc pins s1 σ H1 vs us Q I1 r1 q1) he hpl
/-- T(e, ..), T a built-in type -/
theorem pe_callTy (hc : CallR X (.type T) r) (hg : Gl X x) (hm : X.mg x = none) (hv : bootBuiltins x = some (.type T)) (ha : PA X (e :: es) t) (hn : x ≠ "__name__" := by decide) (hdb : (x == ("__debug__" : Str)) = false := by decide)
    (he : starEach (e :: es) X.env = (false, eval e X.env) :: starEach es X.env := by rfl) (hpl : (backTo pos (starEach es X.env)).any (·.1) = false := by rfl) : PE X (.Call (.Name x p) (e :: es) [] pos) (tCB r t) := by
  intro pins s σ H Q I h
  refine wpAny_Call_Name_kw (ld_blt I hg hm hv ?_ hn hdb)
  exact PyProof.Rows.callWith_type1 (thn (ha pos pins s σ H _ I h) fun us s1 ⟨vs, H1, I1, r1, q1⟩ => hc pins s1 σ H1 vs us Q I1 r1 q1) he hpl
/-- T() -/
theorem pe_callTy0 (hc : CallR X (.type T) r) (hg : Gl X x) (hm : X.mg x = none) (hv : bootBuiltins x = some (.type T)) (hn : x ≠ "__name__" := by decide) (hdb : (x == ("__debug__" : Str)) = false := by decide) :
    PE X (.Call (.Name x p) [] [] pos) (tCB r tNil) := by
  intro pins s σ H Q I h
  refine wpAny_Call_Name_kw (ld_blt I hg hm hv ?_ hn hdb)
  exact PyProof.Rows.callWith_type0 (hc pins s σ H [] [] Q I .nil h)
end
end L2

namespace L2
open PySem PySem.Spec PyProof.Rows

/-! ### lists of pairs as tables -/
section
variable {κ : Type} [DecidableEq κ]
def valV (kvs : List (κ × V)) (k : κ) : Option V := (kvs.find? fun kv => decide (kv.1 = k)).map (·.2)
/-- in its place, or at the end -/
def putK (kvs : List (κ × V)) (k : κ) (v : V) : List (κ × V) :=
  if (kvs.any fun kv => decide (kv.1 = k)) = true then kvs.map (fun kv => if kv.1 = k then (kv.1, v) else kv) else kvs ++ [(k, v)]
def dropK (kvs : List (κ × V)) (k : κ) : List (κ × V) := kvs.filter fun kv => decide (kv.1 ≠ k)

theorem valV_nil {k : κ} : valV ([] : List (κ × V)) k = none := rfl
theorem valV_pos {p : κ × V} {r : List (κ × V)} {k : κ} (e : p.1 = k) : valV (p :: r) k = some p.2 := by simp [valV, List.find?_cons, e]
theorem valV_neg {p : κ × V} {r : List (κ × V)} {k : κ} (e : ¬ p.1 = k) : valV (p :: r) k = valV r k := by simp [valV, List.find?_cons, e]
theorem valV_any (k : κ) : ∀ kvs : List (κ × V), (kvs.any fun kv => decide (kv.1 = k)) = (valV kvs k).isSome
  | [] => rfl
  | p :: r => by
    rw [List.any_cons]
    by_cases e : p.1 = k
    · simp only [valV_pos e, decide_eq_true e, Bool.true_or, Option.isSome_some]
    · rw [valV_neg e, decide_eq_false e, Bool.false_or]; exact valV_any k r
theorem valV_map (k j : κ) (y : V) : ∀ kvs : List (κ × V), valV (kvs.map fun kv => if kv.1 = k then (kv.1, y) else kv) j = (valV kvs j).map fun x => if j = k then y else x
  | [] => rfl
  | p :: r => by
    have ih := valV_map k j y r
    rw [List.map_cons]
    by_cases h : p.1 = k
    · rw [if_pos h]
      by_cases e : p.1 = j
      · rw [valV_pos (p := (p.1, y)) e, valV_pos e, Option.map_some, if_pos (e.symm.trans h)]
      · rw [valV_neg (p := (p.1, y)) e, valV_neg e, ih]
    · rw [if_neg h]
      by_cases e : p.1 = j
      · rw [valV_pos (p := p) e, valV_pos e, Option.map_some, if_neg (fun z => h (e.trans z))]
      · rw [valV_neg (p := p) e, valV_neg e, ih]
theorem valV_snoc (k j : κ) (y : V) : ∀ kvs : List (κ × V), valV kvs k = none → valV (kvs ++ [(k, y)]) j = if j = k then some y else valV kvs j
  | [], _ => by
    by_cases e : k = j
    · rw [if_pos e.symm]; exact valV_pos (p := (k, y)) e
    · rw [if_neg (fun z => e z.symm)]; exact valV_neg (p := (k, y)) e
  | p :: r, hn => by
    rw [List.cons_append]
    have hk : ¬ p.1 = k := fun z => by rw [valV_pos z] at hn; cases hn
    rw [valV_neg hk] at hn
    have ih := valV_snoc k j y r hn
    by_cases e : p.1 = j
    · rw [valV_pos e, valV_pos e, if_neg (fun z => hk (e.trans z))]
    · rw [valV_neg e, valV_neg e, ih]
theorem valV_put (kvs : List (κ × V)) (k j : κ) (y : V) : valV (putK kvs k y) j = if j = k then some y else valV kvs j := by
  unfold putK
  by_cases a : (kvs.any fun kv => decide (kv.1 = k)) = true
  · rw [if_pos a, valV_map]
    rw [valV_any] at a
    by_cases e : j = k
    · obtain ⟨x, hx⟩ := Option.isSome_iff_exists.mp a
      rw [if_pos e, e, hx, Option.map_some, if_pos rfl]
    · rw [if_neg e]
      cases valV kvs j with
      | none => rfl
      | some x => rw [Option.map_some, if_neg e]
  · rw [if_neg a]
    refine valV_snoc k j y kvs ?_
    rw [valV_any] at a
    cases q : valV kvs k with
    | none => rfl
    | some x => rw [q] at a; exact (a rfl).elim
theorem length_putK (kvs : List (κ × V)) (k : κ) (v : V) : (putK kvs k v).length ≤ kvs.length + 1 := by
  unfold putK
  split
  · rw [List.length_map]; omega
  · rw [List.length_append, List.length_cons, List.length_nil]; omega
theorem putK_new {kvs : List (κ × V)} {k : κ} (v : V) (h : valV kvs k = none) : putK kvs k v = kvs ++ [(k, v)] := by
  unfold putK
  rw [valV_any, h]
  exact if_neg (by decide)

theorem RelO.isSome_eq {o : Option V} {u : Option Value} (r : RelO o u) : o.isSome = u.isSome := by
  cases o with
  | none => cases u with
    | none => rfl
    | some _ => exact (show False from r).elim
  | some _ => cases u with
    | none => exact (show False from r).elim
    | some _ => rfl
theorem RelO.getD {o : Option V} {u : Option Value} {d : V} {d' : Value} (r : RelO o u) (rd : RelV d d') : RelV (o.getD d) (u.getD d') := by
  cases o with
  | none => cases u with
    | none => exact rd
    | some _ => exact (show False from r).elim
  | some _ => cases u with
    | none => exact (show False from r).elim
    | some _ => exact r

/-- raw tables of the same keys -/
theorem KV.val {kvs : List (κ × V)} {vs : List (κ × Value)} (r : KV kvs vs) (k : κ) : RelO (valV kvs k) (valueAt vs k) := by
  unfold KV at r
  induction r with
  | nil => exact True.intro
  | @cons p q ps qs h t ih =>
    obtain ⟨h1, h2⟩ := h
    by_cases e : p.1 = k
    · have e' : q.1 = k := h1.symm.trans e
      have b : valueAt (q :: qs) k = some q.2 := by simp [valueAt, List.find?_cons, e']
      rw [valV_pos e, b]; exact h2
    · have e' : ¬ q.1 = k := fun z => e (h1.trans z)
      have b : valueAt (q :: qs) k = valueAt qs k := by simp [valueAt, List.find?_cons, e']
      rw [valV_neg e, b]; exact ih
theorem KV.any {kvs : List (κ × V)} {vs : List (κ × Value)} (r : KV kvs vs) (k : κ) : (kvs.any fun kv => decide (kv.1 = k)) = vs.any fun kv => decide (kv.1 = k) := by
  unfold KV at r
  induction r with
  | nil => rfl
  | cons h t ih => rw [List.any_cons, List.any_cons, ih, h.1]
theorem KV.repl {kvs : List (κ × V)} {vs : List (κ × Value)} (r : KV kvs vs) (k : κ) {y : V} {u : Value} (ry : RelV y u) :
    KV (kvs.map fun kv => if kv.1 = k then (kv.1, y) else kv) (vs.map fun kv => if kv.1 = k then (kv.1, u) else kv) := by
  unfold KV at r ⊢
  induction r with
  | nil => exact .nil
  | @cons p q ps qs h t ih =>
    rw [List.map_cons, List.map_cons]
    refine .cons ?_ ih
    obtain ⟨h1, h2⟩ := h
    by_cases e : p.1 = k
    · rw [if_pos e, if_pos (h1.symm.trans e)]; exact ⟨h1, ry⟩
    · rw [if_neg e, if_neg (fun z => e (h1.trans z))]; exact ⟨h1, h2⟩
theorem KV.put {kvs : List (κ × V)} {vs : List (κ × Value)} (r : KV kvs vs) (k : κ) {y : V} {u : Value} (ry : RelV y u) : KV (putK kvs k y) (stored vs k u) := by
  unfold putK stored
  rw [r.any k]
  by_cases e : (vs.any fun kv => decide (kv.1 = k)) = true
  · rw [if_pos e, if_pos e]; exact r.repl k ry
  · rw [if_neg e, if_neg e]; exact Paired.snoc r ⟨rfl, ry⟩
theorem KV.drop {kvs : List (κ × V)} {vs : List (κ × Value)} (r : KV kvs vs) (k : κ) : KV (dropK kvs k) (without vs k) := by
  unfold KV at r ⊢
  unfold dropK without
  induction r with
  | nil => exact .nil
  | @cons p q ps qs h t ih =>
    obtain ⟨h1, h2⟩ := h
    rw [List.filter_cons, List.filter_cons]
    by_cases e : p.1 = k
    · have a : ¬ decide (p.1 ≠ k) = true := by simp [e]
      have b : ¬ decide (q.1 ≠ k) = true := by simp [h1.symm.trans e]
      rw [if_neg a, if_neg b]; exact ih
    · have e' : ¬ q.1 = k := fun z => e (h1.trans z)
      have a : decide (p.1 ≠ k) = true := by simp [e]
      have b : decide (q.1 ≠ k) = true := by simp [e']
      rw [if_pos a, if_pos b]; exact .cons ⟨h1, h2⟩ ih
theorem KV.keys {kvs : List (κ × V)} {vs : List (κ × Value)} (r : KV kvs vs) : kvs.map (·.1) = vs.map (·.1) := by
  unfold KV at r
  induction r with
  | nil => rfl
  | cons h t ih => rw [List.map_cons, List.map_cons, ih, h.1]
theorem KV.length {kvs : List (κ × V)} {vs : List (κ × Value)} (r : KV kvs vs) : kvs.length = vs.length := Paired.length r
theorem dropK_le (kvs : List (κ × V)) (k : κ) : (dropK kvs k).length ≤ kvs.length := List.length_filter_le _ _
end


/-! ### a tracked dict, its keys ints and texts or tuples of these -/
theorem kV_is {P : Program} {w : World} {k : Key} {u : Value} (r : RelV (kV k) u) : (mixKind P w).is k u = true := by
  cases k with
  | inl i => obtain ⟨t, e⟩ := (show ∃ t, u = Value.int i t from r); subst e; exact mixKind_int P w i t
  | inr x => obtain ⟨t, e⟩ := (show ∃ t, u = Value.str x t from r); subst e; exact mixKind_str P w x t
theorem kV_inj {a b : Key} (e : kV a = kV b) : a = b := by
  cases a with
  | inl i => cases b with
    | inl j => have e' : V.int i = V.int j := e; injection e' with e'; rw [e']
    | inr y => exact nomatch (show V.int i = V.str y from e)
  | inr x => cases b with
    | inl j => exact nomatch (show V.str x = V.int j from e)
    | inr y => have e' : V.str x = V.str y := e; injection e' with e'; rw [e']
theorem kVs_inj : ∀ {a b : List Key}, a.map kV = b.map kV → a = b
  | [], [], _ => rfl
  | [], _ :: _, e => by simp at e
  | _ :: _, [], e => by simp at e
  | x :: xs, y :: ys, e => by
    rw [List.map_cons, List.map_cons] at e
    injection e with e1 e2
    rw [kV_inj e1, kVs_inj e2]
theorem items_are {P : Program} {w : World} : ∀ {ks : List Key} {us : List Value}, Vals (ks.map kV) us → ItemsAre (mixKind P w) ks us
  | [], _, r => by rw [List.map_nil] at r; cases r; exact .nil
  | k :: ks, _, r => by
    rw [List.map_cons] at r
    cases r with
    | cons h t => exact .cons (kV_is h) (items_are t)

/-- raw entries of a dict with tuple keys -/
abbrev KT (H : Hp) : List (List Key × V) → List (List Key × Addr × Value) → Prop := Paired fun p q => p.1 = q.1 ∧ H q.2.1 = some (.tup (p.1.map kV)) ∧ RelV p.2 q.2.2
theorem KT.val {H : Hp} {kvs : List (List Key × V)} {xs : List (List Key × Addr × Value)} (r : KT H kvs xs) (k : List Key) : RelO (valV kvs k) ((atKey xs k).map (·.2)) := by
  induction r with
  | nil => exact True.intro
  | @cons p q ps qs h t ih =>
    obtain ⟨h1, _, h2⟩ := h
    by_cases e : p.1 = k
    · have e' : q.1 = k := h1.symm.trans e
      have b : atKey (q :: qs) k = some q.2 := by simp [atKey, List.find?_cons, e']
      rw [valV_pos e, b]; exact h2
    · have e' : ¬ q.1 = k := fun z => e (h1.trans z)
      have b : atKey (q :: qs) k = atKey qs k := by simp [atKey, List.find?_cons, e']
      rw [valV_neg e, b]; exact ih
theorem KT.repl {H : Hp} {kvs : List (List Key × V)} {xs : List (List Key × Addr × Value)} (r : KT H kvs xs) (k : List Key) {y : V} {u : Value} (ry : RelV y u) :
    KT H (kvs.map fun kv => if kv.1 = k then (kv.1, y) else kv) (xs.map (putAt k u)) := by
  induction r with
  | nil => exact .nil
  | @cons p q ps qs h t ih =>
    rw [List.map_cons, List.map_cons]
    refine .cons ?_ ih
    obtain ⟨h1, h2, h3⟩ := h
    unfold putAt
    by_cases e : p.1 = k
    · rw [if_pos e, if_pos (h1.symm.trans e)]; exact ⟨h1, h2, ry⟩
    · rw [if_neg e, if_neg (fun z => e (h1.trans z))]; exact ⟨h1, h2, h3⟩
theorem KT.put {H : Hp} {kvs : List (List Key × V)} {xs : List (List Key × Addr × Value)} (r : KT H kvs xs) (k : List Key) {b : Addr} {y : V} {u : Value} (hb : H b = some (.tup (k.map kV))) (ry : RelV y u) :
    KT H (putK kvs k y) (storedH xs k b u) := by
  have e : (kvs.any fun kv => decide (kv.1 = k)) = (atKey xs k).isSome := by
    rw [valV_any, (r.val k).isSome_eq, Option.isSome_map]
  unfold putK storedH
  rw [e]
  by_cases q : (atKey xs k).isSome = true
  · rw [if_pos q, if_pos q]; exact r.repl k ry
  · rw [if_neg q, if_neg q]; exact Paired.snoc r ⟨rfl, hb, ry⟩
theorem KT.keeps {H H' : Hp} {kvs : List (List Key × V)} {xs : List (List Key × Addr × Value)} (r : KT H kvs xs) (ht : ∀ b ys, H b = some (.tup ys) → H' b = some (.tup ys)) : KT H' kvs xs :=
  Paired.mapP r fun _ _ z => ⟨z.1, ht _ _ z.2.1, z.2.2⟩

section
variable {P : Program} {w : World} {H : Hp} {h : Heap} {a : Addr}
theorem rd_of {u : HO} (ok : HOk P w H h) (e : Rd H a u) : ObjOk P w H h a u := e.ok ok
theorem dk_rd {kvs : List (Key × V)} (ok : HOk P w H h) (e : Rd H a (.dK kvs)) : kvs.length ≤ sizeLine ∧ (a == sysModules) = false ∧ ∃ vs, KV kvs vs ∧ h.DictOf (mixKind P w) a vs :=
  show ObjOk P w H h a (.dK kvs) from rd_of ok e
theorem dk_of {kvs : List (Key × V)} (ok : HOk P w H h) (e : H a = some (.dK kvs)) : kvs.length ≤ sizeLine ∧ (a == sysModules) = false ∧ ∃ vs, KV kvs vs ∧ h.DictOf (mixKind P w) a vs := dk_rd ok (.inl e)
/-- a tracked tuple of ints and texts is a key -/
theorem key_of {ks : List Key} (ok : HOk P w H h) (e : H a = some (.tup (ks.map kV))) : (tupleKind (mixKind P w)).is h ks a := by
  obtain ⟨_, its, r, o, h1, h2, n, h3⟩ := (show ObjOk P w H h a (.tup (ks.map kV)) from ok a _ e)
  exact ⟨o, its.toArray, n, h1, h2, h3, by simpa using items_are r⟩
theorem dt_rd {kvs : List (List Key × V)} (ok : HOk P w H h) (e : Rd H a (.dT kvs)) : kvs.length ≤ sizeLine ∧ (a == sysModules) = false ∧
    ∃ xs, KT H kvs xs ∧ h.DictOfH (tupleKind (mixKind P w)) a xs := by
  obtain ⟨z, y, xs, r, o, es, ep, h1, h2, h3, h4, h5⟩ := (show ObjOk P w H h a (.dT kvs) from rd_of ok e)
  refine ⟨z, y, xs, r, o, es, ep, h1, h2, h3, h4, fun x hx => ?_, h5⟩
  have all : ∀ {l : List (List Key × V)} {m : List (List Key × Addr × Value)}, KT H l m → ∀ x ∈ m, (tupleKind (mixKind P w)).is h x.1 x.2.1 := by
    intro l m q
    induction q with
    | nil => intro x hx; exact nomatch hx
    | @cons p q ps qs hq t ih =>
      intro x hx
      rcases List.mem_cons.mp hx with e | hx
      · subst e
        exact key_of ok (by rw [← hq.1]; exact hq.2.1)
      · exact ih x hx
  exact all r x hx
theorem dt_of {kvs : List (List Key × V)} (ok : HOk P w H h) (e : H a = some (.dT kvs)) : kvs.length ≤ sizeLine ∧ (a == sysModules) = false ∧
    ∃ xs, KT H kvs xs ∧ h.DictOfH (tupleKind (mixKind P w)) a xs := dt_rd ok (.inl e)
end

/-- what the dict at a holds at the key y -/
def DGet (H : Hp) (a : Addr) (y : V) (r : Option V) : Prop :=
  (∃ kvs k, Rd H a (.dK kvs) ∧ y = kV k ∧ r = valV kvs k) ∨ ∃ kvs k b, Rd H a (.dT kvs) ∧ y = .ref b ∧ H b = some (.tup (k.map kV)) ∧ r = valV kvs k
/-- the heap behind a[y] = v -/
def DPut (H : Hp) (a : Addr) (y v : V) (H' : Hp) : Prop :=
  (∃ kvs k, H a = some (.dK kvs) ∧ y = kV k ∧ kvs.length < sizeLine ∧ H' = upd H a (.dK (putK kvs k v))) ∨
  ∃ kvs k b, H a = some (.dT kvs) ∧ y = .ref b ∧ H b = some (.tup (k.map kV)) ∧ kvs.length < sizeLine ∧ H' = upd H a (.dT (putK kvs k v))
theorem DGet.k {H : Hp} {a : Addr} {kvs : List (Key × V)} {k : Key} (e : H a = some (.dK kvs)) : DGet H a (kV k) (valV kvs k) := .inl ⟨kvs, k, .inl e, rfl, rfl⟩
theorem DGet.t {H : Hp} {a b : Addr} {kvs : List (List Key × V)} {k : List Key} (e : H a = some (.dT kvs)) (eb : H b = some (.tup (k.map kV))) : DGet H a (.ref b) (valV kvs k) := .inr ⟨kvs, k, b, .inl e, rfl, eb, rfl⟩
theorem DPut.k {H : Hp} {a : Addr} {kvs : List (Key × V)} {k : Key} {v : V} (e : H a = some (.dK kvs)) (hl : kvs.length < sizeLine) : DPut H a (kV k) v (upd H a (.dK (putK kvs k v))) := .inl ⟨kvs, k, e, rfl, hl, rfl⟩
theorem DPut.t {H : Hp} {a b : Addr} {kvs : List (List Key × V)} {k : List Key} {v : V} (e : H a = some (.dT kvs)) (eb : H b = some (.tup (k.map kV))) (hl : kvs.length < sizeLine) :
    DPut H a (.ref b) v (upd H a (.dT (putK kvs k v))) := .inr ⟨kvs, k, b, e, rfl, eb, hl, rfl⟩


section
variable {X : Cx} {pins : List (Addr × Obj)} {σ : St} {H : Hp} {s : Shared} {a : Addr} {y v : V} {u r : Value} {o : Option V} {A : Around} {E : Value → Shared → Prop}

theorem Inv.big (I : Inv X pins σ H s) : sysModules < s.heap.objs.size := by
  have h : mainGlobals < s.heap.objs.size := (I.mod.glob.keeps I.bk).lt
  exact Nat.lt_trans (by decide) h

/-- d[y], there -/
theorem d_getItem {Q : Value → Shared → Prop} (hu : A.units + 1 < cLine) (I : Inv X pins σ H s) (g : DGet H a y (some v)) (ry : RelV y u) (h : ∀ w' s', Inv X pins σ H s' → RelV v w' → Q w' s') :
    wpAny (model X.prog X.w) A (getItem (.ref a) u) Q E s := by
  rcases g with ⟨kvs, k, e, ey, l⟩ | ⟨kvs, k, b, e, ey, eb, l⟩
  · subst ey
    obtain ⟨z, hd, vs, rel, dd⟩ := dk_rd I.hok e
    obtain ⟨w', hw, rw'⟩ := RelO.some_of (v := v) (o := valueAt vs k) (by rw [l]; exact rel.val k)
    exact wpAny_getItem_of (kV_is ry) dd.mapOf hw (h w' _ (I.tok _) rw')
  · subst ey
    cases (show u = Value.ref b from ry)
    obtain ⟨z, hd, xs, rel, dd⟩ := dt_rd I.hok e
    obtain ⟨w', hw, rw'⟩ := RelO.some_of (v := v) (o := (atKey xs k).map (·.2)) (by rw [l]; exact rel.val k)
    obtain ⟨p, hp, hp2⟩ := Option.map_eq_some_iff.mp hw
    refine wpAny_getItem_heap (tupleKind_room_in1 hu) (key_of I.hok eb) dd hp ?_
    rw [hp2]
    exact h w' _ (I.tok _) rw'
/-- y in d -/
theorem d_in {Q : Value → Shared → Prop} (hu : A.units + 1 < cLine) (I : Inv X pins σ H s) (g : DGet H a y o) (ry : RelV y u) (h : ∀ s', Inv X pins σ H s' → Q (.bool o.isSome) s') :
    wpAny (model X.prog X.w) A (compareOp .In u (.ref a)) Q E s := by
  rcases g with ⟨kvs, k, e, ey, l⟩ | ⟨kvs, k, b, e, ey, eb, l⟩
  · subst ey
    obtain ⟨z, hd, vs, rel, dd⟩ := dk_rd I.hok e
    refine wpAny_in_of (kV_is ry) hd dd.mapOf ?_
    rw [← (rel.val k).isSome_eq, ← l]
    exact h _ (I.tok _)
  · subst ey
    cases (show u = Value.ref b from ry)
    obtain ⟨z, hd, xs, rel, dd⟩ := dt_rd I.hok e
    refine wpAny_in_heap (tupleKind_room_in1 hu) (key_of I.hok eb) hd dd ?_
    have q := (rel.val k).isSome_eq
    rw [Option.isSome_map] at q
    rw [← q, ← l]
    exact h _ (I.tok _)
theorem d_notIn {Q : Value → Shared → Prop} (hu : A.units + 1 < cLine) (I : Inv X pins σ H s) (g : DGet H a y o) (ry : RelV y u) (h : ∀ s', Inv X pins σ H s' → Q (.bool (!o.isSome)) s') :
    wpAny (model X.prog X.w) A (compareOp .NotIn u (.ref a)) Q E s := by
  rcases g with ⟨kvs, k, e, ey, l⟩ | ⟨kvs, k, b, e, ey, eb, l⟩
  · subst ey
    obtain ⟨z, hd, vs, rel, dd⟩ := dk_rd I.hok e
    refine wpAny_notIn_of (kV_is ry) hd dd.mapOf ?_
    rw [← (rel.val k).isSome_eq, ← l]
    exact h _ (I.tok _)
  · subst ey
    cases (show u = Value.ref b from ry)
    obtain ⟨z, hd, xs, rel, dd⟩ := dt_rd I.hok e
    refine wpAny_notIn_heap (tupleKind_room_in1 hu) (key_of I.hok eb) hd dd ?_
    have q := (rel.val k).isSome_eq
    rw [Option.isSome_map] at q
    rw [← q, ← l]
    exact h _ (I.tok _)
/-- a dict's object is replaced -/
theorem d_write {h' : Heap} {t' : Nat} {ob : HO} (I : Inv X pins σ H s) (mu : Mut (H a)) (hs : Heap.SameBut a s.heap h') (he : ∃ q, h'.get? a = some q) (new : ObjOk X.prog X.w (upd H a ob) h' a ob) :
    Inv X pins σ (upd H a ob) { s with heap := h', toks := t' } :=
  I.write (x := a) (e := a) mu (.inl rfl) (fun b q hb z => (hs.2 b hb).trans z) he new
theorem dk_new {P : Program} {w : World} {H' : Hp} {h' : Heap} {kvs : List (Key × V)} {vs : List (Key × Value)} (z : kvs.length ≤ sizeLine) (hd : (a == sysModules) = false) (rel : KV kvs vs) (dd : h'.DictOf (mixKind P w) a vs) :
    ObjOk P w H' h' a (.dK kvs) := ⟨z, hd, vs, rel, dd⟩
/-- d[y] = v -/
theorem d_setItem {H' : Hp} {Q : Unit → Shared → Prop} (hu : A.units + 1 < cLine) (I : Inv X pins σ H s) (g : DPut H a y v H') (ry : RelV y u) (rv : RelV v r) (h : ∀ s', Inv X pins σ H' s' → Q () s') :
    wpAny (model X.prog X.w) A (setItem (.ref a) u r) Q E s := by
  rcases g with ⟨kvs, k, e, ey, l, eH⟩ | ⟨kvs, k, b, e, ey, eb, l, eH⟩
  · subst ey eH
    obtain ⟨z, hd, vs, rel, dd⟩ := dk_of I.hok e
    have hz : vs.length ≤ sizeLine := by rw [← rel.length]; exact z
    have hl : (putK kvs k v).length ≤ sizeLine := by have := length_putK kvs k v; omega
    refine wpAny_setItem_pairs (hsz := hz) (kV_is ry) dd fun h' dd' hs => h _ ?_
    have he : ∃ q, h'.get? a = some q := let ⟨q, _, _, hq, _⟩ := dd'; ⟨q, hq⟩
    exact d_write I (by rw [e]; exact True.intro) hs he (dk_new hl hd (rel.put k rv) dd')
  · subst ey eH
    cases (show u = Value.ref b from ry)
    obtain ⟨z, hd, xs, rel, dd⟩ := dt_of I.hok e
    have hz : xs.length ≤ sizeLine := by rw [← Paired.length rel]; exact z
    have hl : (putK kvs k v).length ≤ sizeLine := by have := length_putK kvs k v; omega
    refine wpAny_setItem_heap (hsz := hz) (tupleKind_room_in1 hu) (key_of I.hok eb) dd fun h' dd' hs => h _ ?_
    obtain ⟨q, es, ep, hq, h2, h3, h4, _, h5⟩ := dd'
    refine d_write I (by rw [e]; exact True.intro) hs ⟨q, hq⟩ ⟨hl, hd, _, (rel.put k eb rv).keeps fun c ys ec => ?_, q, es, ep, hq, h2, h3, h4, h5⟩
    rw [upd_ne (ne_of ec e (fun z => nomatch z))]
    exact ec
end

section
variable {X : Cx} {pins : List (Addr × Obj)} {σ : St} {H : Hp} {s : Shared} {a : Addr} {kvs : List (Key × V)} {k : Key} {u : Value} {A : Around} {E : Value → Shared → Prop}
/-- del d[k] -/
theorem d_delItem {Q : Unit → Shared → Prop} (I : Inv X pins σ H s) (e : H a = some (.dK kvs)) (ry : RelV (kV k) u) (l : (valV kvs k).isSome = true) (h : ∀ s', Inv X pins σ (upd H a (.dK (dropK kvs k))) s' → Q () s') :
    wpAny (model X.prog X.w) A (delItem (.ref a) u) Q E s := by
  obtain ⟨z, hd, vs, rel, dd⟩ := dk_of I.hok e
  refine wpAny_delItem_slot dd.typeIs (by decide) PySem.F.slot_dict_delitem
    (call_meetsIn PySem.F.slot_dict_delitem dd.typeIs PySem.F.entry_dict_delitem (PySem.F.args_dict_delitem_2 _ _) (meets_dict_delitem_pairs (mixKind X.prog X.w) a (kV_is ry)) ⟨vs, dd, by rw [← rel.length]; exact z, by rw [← (rel.val k).isSome_eq]; exact l, fun h' dd' hs => h _ ?_⟩)
  have he : ∃ q, h'.get? a = some q := let ⟨q, _, _, hq, _⟩ := dd'; ⟨q, hq⟩
  exact d_write I (by rw [e]; exact True.intro) hs he (dk_new (Nat.le_trans (dropK_le kvs k) z) hd (rel.drop k) dd')
/-- d.pop(k[, x]), there -/
theorem d_pop {v : V} {more : List Value} {Q : Value → Shared → Prop} (I : Inv X pins σ H s) (e : H a = some (.dK kvs)) (ry : RelV (kV k) u) (l : valV kvs k = some v) (hm : more = [] ∨ ∃ x, more = [x])
    (h : ∀ w' s', Inv X pins σ (upd H a (.dK (dropK kvs k))) s' → RelV v w' → Q w' s') : wpAny (model X.prog X.w) A (call (.builtin "dict.pop") (.ref a :: u :: more)) Q E s := by
  obtain ⟨z, hd, vs, rel, dd⟩ := dk_of I.hok e
  obtain ⟨w', hw, rw'⟩ := RelO.some_of (v := v) (o := valueAt vs k) (by rw [← l]; exact rel.val k)
  have hp : (keyPart u).isSome = true := by
    cases k with
    | inl i => obtain ⟨t, q⟩ := (show ∃ t, u = Value.int i t from ry); subst q; rfl
    | inr x => obtain ⟨t, q⟩ := (show ∃ t, u = Value.str x t from ry); subst q; rfl
  have ha : argsOk "dict.pop" ⟨.ref a :: u :: more, []⟩ := by
    rcases hm with q | ⟨x, q⟩
    · subst q; exact PySem.F.args_dict_pop_2 _ _
    · subst q; exact PySem.F.args_dict_pop_3 _ _ _
  refine call_meetsIn PySem.F.slot_dict_pop dd.typeIs PySem.F.entry_dict_pop ha (meets_dict_pop_there (mixKind X.prog X.w) a (kV_is ry) more hm hp)
    ⟨vs, w', dd, by rw [← rel.length]; exact z, hw, fun h' dd' hs => h w' _ ?_ rw'⟩
  have he : ∃ q, h'.get? a = some q := let ⟨q, _, _, hq, _⟩ := dd'; ⟨q, hq⟩
  exact d_write I (by rw [e]; exact True.intro) hs he (dk_new (Nat.le_trans (dropK_le kvs k) z) hd (rel.drop k) dd')
/-- d.pop(k, x), not there -/
theorem d_popD {r : Value} {Q : Value → Shared → Prop} (I : Inv X pins σ H s) (e : H a = some (.dK kvs)) (ry : RelV (kV k) u) (l : valV kvs k = none) (h : ∀ s', Inv X pins σ H s' → Q r s') :
    wpAny (model X.prog X.w) A (call (.builtin "dict.pop") [.ref a, u, r]) Q E s := by
  obtain ⟨z, hd, vs, rel, dd⟩ := dk_of I.hok e
  have hn : valueAt vs k = none := RelO.none_of (by rw [← l]; exact rel.val k)
  have hp : (keyPart u).isSome = true := by
    cases k with
    | inl i => obtain ⟨t, q⟩ := (show ∃ t, u = Value.int i t from ry); subst q; rfl
    | inr x => obtain ⟨t, q⟩ := (show ∃ t, u = Value.str x t from ry); subst q; rfl
  exact call_meetsIn PySem.F.slot_dict_pop dd.typeIs PySem.F.entry_dict_pop (PySem.F.args_dict_pop_3 _ _ _) (meets_dict_pop_default (mixKind X.prog X.w) a (kV_is ry) hd hp r) ⟨vs, dd, hn, h _ (I.tok _)⟩
/-- d.clear() -/
theorem d_clear {Q : Value → Shared → Prop} (I : Inv X pins σ H s) (e : H a = some (.dK kvs)) (h : ∀ s', Inv X pins σ (upd H a (.dK [])) s' → Q .none s') : wpAny (model X.prog X.w) A (call (.builtin "dict.clear") [.ref a]) Q E s := by
  obtain ⟨z, hd, vs, rel, dd⟩ := dk_of I.hok e
  refine call_meetsIn PySem.F.slot_dict_clear dd.typeIs PySem.F.entry_dict_clear (PySem.F.args_dict_clear_1 _) (meets_dict_clear (mixKind X.prog X.w) a) ⟨vs, dd, by rw [← rel.length]; exact z, fun h' dd' hs => h _ ?_⟩
  have he : ∃ q, h'.get? a = some q := let ⟨q, _, _, hq, _⟩ := dd'; ⟨q, hq⟩
  exact d_write (t' := s.toks) I (by rw [e]; exact True.intro) hs he (dk_new (Nat.zero_le _) hd .nil dd')
/-- len(d) -/
theorem d_len {Q : Value → Shared → Prop} (I : Inv X pins σ H s) (e : Rd H a (.dK kvs)) (h : ∀ t s', Inv X pins σ H s' → Q (.int kvs.length t) s') : wpAny (model X.prog X.w) A (call (.builtin "len") [.ref a]) Q E s := by
  obtain ⟨z, hd, vs, rel, dd⟩ := dk_rd I.hok e
  refine call_len_dict hd dd (by rw [← rel.length]; rw [sizeLine_eq] at z; omega) ?_
  rw [← rel.length]
  exact h _ _ (I.tok _)
/-- if d -/
theorem d_truth {Q : Bool → Shared → Prop} (I : Inv X pins σ H s) (e : Rd H a (.dK kvs)) (h : ∀ s', Inv X pins σ H s' → Q (!kvs.isEmpty) s') : wpAny (model X.prog X.w) A (truthy (.ref a)) Q E s := by
  obtain ⟨z, hd, vs, rel, dd⟩ := dk_rd I.hok e
  refine wpAny_truthy_dict hd dd (by rw [← rel.length]; rw [sizeLine_eq] at z; omega) ?_
  have q : kvs.isEmpty = vs.isEmpty := by cases rel <;> rfl
  rw [← q]
  exact h _ (I.tok _)
end


/-! ### readings and rules -/
/-- the element of a subscription, not a slice -/
def NoSl (i : Expr) : Prop := ∀ ov iv, subscripted i false ov iv = operate [ov, iv] (getItem ov iv)
theorem subD_of {prog : Program} {w : World} {A : Around} {E : Value → Shared → Prop} {s : Shared} {env : Env} {value slice : Expr} {pos : Pos} {T id : String} {Q : Value → Shared → Prop}
    (hl : typeLookup (.type T) "__getitem__" = pure (some (.builtin id))) (hs : NoSl slice)
    (h : wpAny (model prog w) A (eval value env) (fun o s₁ => wpAny (model prog w) A (eval slice env) (fun i s₂ => s₂.TypeIs o T ∧ wpAny (model prog w) A (getItem o i) Q E s₂) E s₁) E s) :
    wpAny (model prog w) A (eval (.Subscript value slice pos) env) Q E s := by
  refine Subscript_ (wpAny_mono h (fun o s₁ h₁ => wpAny_mono h₁ (fun i s₂ h₂ => ?_) fun _ _ x => x) fun _ _ x => x)
  obtain ⟨hT, h₂⟩ := h₂
  unfold subscriptTail
  refine wpAny_bind ?_
  rw [getitemInPython_of_ne hT.not_modules]
  refine wpAny_bind (wpAny_specialOf hT hl ?_)
  have fin : wpAny (model prog w) A (subscripted slice false o i) (fun r s₃ => wpAny (model prog w) A (letTemporaryGo value o r >>= fun _ => pure r) Q E s₃) E s₂ := by
    rw [hs o i]
    exact wpAny_operating (wpAny_mono h₂ (fun r s₃ h₃ => wpAny_bind (wpAny_letTemporaryGo (wpAny_pure h₃))) fun _ _ x => x)
  first
    | exact wpAny_pure (wpAny_bind fin)
    | exact wpAny_bind (wpAny_pure (wpAny_bind fin))
    | exact wpAny_bind fin

theorem dict_typeIs {X : Cx} {pins : List (Addr × Obj)} {σ : St} {H : Hp} {s : Shared} {a : Addr} {y : V} {o : Option V} (I : Inv X pins σ H s) (g : DGet H a y o) : s.TypeIs (.ref a) "dict" := by
  rcases g with ⟨kvs, k, e, _, _⟩ | ⟨kvs, k, b, e, _, _, _⟩
  · obtain ⟨_, _, vs, _, dd⟩ := dk_rd I.hok e
    exact dd.typeIs
  · obtain ⟨_, _, xs, _, dd⟩ := dt_rd I.hok e
    exact dd.typeIs
theorem dict_noDict {X : Cx} {pins : List (Addr × Obj)} {σ : St} {H : Hp} {s : Shared} {a : Addr} {y : V} {o : Option V} (I : Inv X pins σ H s) (g : DGet H a y o) :
    ∀ b, Value.ref a = .ref b → ∃ ob, s.heap.get? b = some ob ∧ ob.dict = none := fun b q => by
  cases q
  rcases g with ⟨kvs, k, e, _, _⟩ | ⟨kvs, k, b, e, _, _, _⟩
  · obtain ⟨_, _, vs, _, ob, _, _, h1, h2, _⟩ := dk_rd I.hok e
    exact ⟨ob, h1, h2.2.1⟩
  · obtain ⟨_, _, xs, _, ob, _, _, h1, h2, _⟩ := dt_rd I.hok e
    exact ⟨ob, h1, h2.2.1⟩

/-- d[y] -/
def tDGet (td ty : TE) : TE := fun σ H Q => td σ H fun x H1 => ty σ H1 fun y H2 => ∃ a v, x = .ref a ∧ DGet H2 a y (some v) ∧ Q v H2
/-- y in d, y not in d -/
def tDIn (ty td : TE) : TE := fun σ H Q => ty σ H fun y H1 => td σ H1 fun x H2 => ∃ a o, x = .ref a ∧ DGet H2 a y o ∧ Q (.bl o.isSome) H2
def tDNotIn (ty td : TE) : TE := fun σ H Q => ty σ H fun y H1 => td σ H1 fun x H2 => ∃ a o, x = .ref a ∧ DGet H2 a y o ∧ Q (.bl (!o.isSome)) H2
/-- d[y] = v -/
def sDPut (td ty tv : TE) : TS := fun D σ H => tv σ H fun v H1 => td σ H1 fun x H2 => ty σ H2 fun y H3 => ∃ a H4, x = .ref a ∧ DPut H3 a y v H4 ∧ D.nx σ H4
/-- d[y] op= v -/
def sDAug (td ty tv : TE) (rd : V → V → Hp → VK → Prop) : TS := fun D σ H => td σ H fun x H1 => ty σ H1 fun y H2 => ∃ a v, x = .ref a ∧ DGet H2 a y (some v) ∧
  tv σ H2 fun y2 H3 => rd v y2 H3 fun z H4 => ∃ H5, DPut H4 a y z H5 ∧ D.nx σ H5
/-- del d[y] -/
def sDDel (td ty : TE) : TS := fun D σ H => td σ H fun x H1 => ty σ H1 fun y H2 => ∃ a kvs k, x = .ref a ∧ H2 a = some (.dK kvs) ∧ y = kV k ∧ (valV kvs k).isSome = true ∧ D.nx σ (upd H2 a (.dK (dropK kvs k)))

section
variable {X : Cx} {o i e value : Expr} {pos pos' tpos : Pos} {td ty tv : TE}
theorem pe_dget (hu : X.A.units + 1 < cLine) (ho : PE X o td) (hi : PE X i ty) (hs : NoSl i) : PE X (.Subscript o i pos) (tDGet td ty) := by
  intro pins s σ H Q I h
  refine subD_of PySem.F.slot_dict_getitem.lookup hs (thn (ho pins s σ H _ I h) fun u s1 ⟨x, H1, I1, rx, q1⟩ => thn (hi pins s1 σ H1 _ I1 q1) fun iv s2 ⟨y, H2, I2, ry, a, v, ex, g, q2⟩ => ?_)
  subst ex
  obtain rfl : u = Value.ref a := rx
  exact ⟨dict_typeIs I2 g, d_getItem hu I2 g ry fun w' s3 I3 rw' => ⟨v, H2, I3, rw', q2⟩⟩
theorem pc_din (hu : X.A.units + 1 < cLine) (hi : PE X i ty) (ho : PE X o td) : PC X .In i o (tDIn ty td) := by
  intro pins s σ H Q I h
  refine thn (hi pins s σ H _ I h) fun iv s1 ⟨y, H1, I1, ry, q1⟩ => thn (ho pins s1 σ H1 _ I1 q1) fun u s2 ⟨x, H2, I2, rx, a, ov, ex, g, q2⟩ => ?_
  subst ex
  obtain rfl : u = Value.ref a := rx
  exact d_in hu I2 g ry fun s3 I3 => ⟨.bl ov.isSome, H2, I3, rfl, q2⟩
theorem pc_dnotin (hu : X.A.units + 1 < cLine) (hi : PE X i ty) (ho : PE X o td) : PC X .NotIn i o (tDNotIn ty td) := by
  intro pins s σ H Q I h
  refine thn (hi pins s σ H _ I h) fun iv s1 ⟨y, H1, I1, ry, q1⟩ => thn (ho pins s1 σ H1 _ I1 q1) fun u s2 ⟨x, H2, I2, rx, a, ov, ex, g, q2⟩ => ?_
  subst ex
  obtain rfl : u = Value.ref a := rx
  exact d_notIn hu I2 g ry fun s3 I3 => ⟨.bl (!ov.isSome), H2, I3, rfl, q2⟩
theorem ps_dput (hu : X.A.units + 1 < cLine) (ho : PE X o td) (hi : PE X i ty) (hv : PE X value tv) (hs : swapsWith value (some (.Subscript o i pos')) pos.line X.env = pure false) :
    PS X (.Assign [.Subscript o i pos'] value pos) (sDPut td ty tv) := by
  intro pins s σ H D I h
  refine wpAny_Assign_Subscript (thn (hv pins s σ H _ I h) fun r s1 ⟨v, H1, I1, rv, q1⟩ => thn (ho pins s1 σ H1 _ I1 q1) fun u s2 ⟨x, H2, I2, rx, q2⟩ => thn (hi pins s2 σ H2 _ I2 q2) fun iv s3 ⟨y, H3, I3, ry, a, H4, ex, g, q3⟩ => ?_) hs
  subst ex
  obtain rfl : u = Value.ref a := rx
  exact d_setItem hu I3 g ry rv fun s4 I4 => ⟨σ, H4, I4, q3⟩
theorem ps_daug {op : Operator} {rd : V → V → Hp → VK → Prop} (hu : X.A.units + 1 < cLine) (ho : PE X o td) (hi : PE X i ty) (hv : PE X value tv) (hop : InOp X op rd)
    (ha : ∀ ov iv new, augStore i ov iv new = (do holding [new, ov, iv] (setItem ov iv new); release [new, ov, iv] []; pure .next)) : PS X (.AugAssign (.Subscript o i tpos) op value pos) (sDAug td ty tv rd) := by
  intro pins s σ H D I h
  refine wpAny_AugAssign_SubscriptAny (thn (ho pins s σ H _ I h) fun u s1 ⟨x, H1, I1, rx, q1⟩ => thn (hi pins s1 σ H1 _ I1 q1) fun iv s2 ⟨y, H2, I2, ry, a, v, ex, g, q2⟩ => ?_) ha
  subst ex
  obtain rfl : u = Value.ref a := rx
  refine d_getItem hu I2 g ry fun w' s3 I3 rw' => thn (hv pins s3 σ H2 _ I3 q2) fun w2 s4 ⟨y2, H3, I4, ry2, q3⟩ => thn (hop pins s4 σ H3 v y2 w' w2 _ I4 rw' ry2 q3) fun w3 s5 ⟨z, H4, I5, rz, H5, g5, q4⟩ => ?_
  exact d_setItem hu I5 g5 ry rz fun s6 I6 => ⟨σ, H5, I6, q4⟩
theorem ps_ddel (ho : PE X o td) (hi : PE X i ty) : PS X (.Delete [.Subscript o i tpos] pos) (sDDel td ty) := by
  intro pins s σ H D I h
  refine wpAny_Delete (wpAny_deleteEach_cons (wpAny_delete_Subscript (thn (ho pins s σ H _ I h) fun u s1 ⟨x, H1, I1, rx, q1⟩ => thn (hi pins s1 σ H1 _ I1 q1) fun iv s2 ⟨y, H2, I2, ry, a, kvs, k, ex, e, ey, l, q2⟩ => ?_)))
  subst ex ey
  obtain rfl : u = Value.ref a := rx
  exact d_delItem I2 e ry l fun s3 I3 => wpAny_deleteEach_nil ⟨σ, _, I3, q2⟩
end


/-! ### displays -/
theorem dk_empty {P : Program} {w : World} {H : Hp} (h : Heap) (hb : sysModules < h.objs.size) : ObjOk P w H (h.push { cls := .type "dict", data := .dict #[] }) h.objs.size (.dK []) :=
  ⟨Nat.zero_le _, beq_eq_false_iff_ne.mpr (Ne.symm (Nat.ne_of_lt hb)), [], .nil, Heap.DictOf.new h⟩
theorem dt_empty {P : Program} {w : World} {H : Hp} (h : Heap) (hb : sysModules < h.objs.size) : ObjOk P w H (h.push { cls := .type "dict", data := .dict #[] }) h.objs.size (.dT []) :=
  ⟨Nat.zero_le _, beq_eq_false_iff_ne.mpr (Ne.symm (Nat.ne_of_lt hb)), [], .nil, _, #[], 0, Heap.get?_push_size _ rfl, ⟨rfl, rfl, rfl⟩, rfl, rfl, List.nodup_nil⟩
/-- {}, to be a dict of the kind that is wanted -/
def tDNewK : TE := fun _ H Q => ∀ p, H p = none → Q (.ref p) (upd H p (.dK []))
def tDNewT : TE := fun _ H Q => ∀ p, H p = none → Q (.ref p) (upd H p (.dT []))
section
variable {X : Cx} {pos : Pos}
theorem pe_dnewK : PE X (.Dict [] [] pos) tDNewK := fun pins s σ H Q I h =>
  wpAny_Dict_empty ⟨.ref s.heap.objs.size, _, I.laid (a := s.heap.objs.size) (o := .dK []) (t' := s.toks) (fun _ _ q => Heap.get?_push_of_some _ q) (Nat.le_refl _) (dk_empty s.heap I.big), rfl, h _ (I.hok.fresh (Nat.le_refl _))⟩
theorem pe_dnewT : PE X (.Dict [] [] pos) tDNewT := fun pins s σ H Q I h =>
  wpAny_Dict_empty ⟨.ref s.heap.objs.size, _, I.laid (a := s.heap.objs.size) (o := .dT []) (t' := s.toks) (fun _ _ q => Heap.get?_push_of_some _ q) (Nat.le_refl _) (dt_empty s.heap I.big), rfl, h _ (I.hok.fresh (Nat.le_refl _))⟩
end

/-- the pairs of a display, from the left -/
def tPairs : List (TE × TE) → St → Hp → (List (V × V) → Hp → Prop) → Prop
  | [], _, H, Q => Q [] H
  | (tk, tv) :: r, σ, H, Q => tk σ H fun x H1 => tv σ H1 fun y H2 => tPairs r σ H2 fun ps H3 => Q ((x, y) :: ps) H3
abbrev VV : List (V × V) → List (Value × Value) → Prop := Paired fun p q => RelV p.1 q.1 ∧ RelV p.2 q.2
def PPs (X : Cx) (pos : Pos) (keys : List (Option Expr)) (values : List Expr) (trs : List (TE × TE)) : Prop :=
  ∀ (pins : List (Addr × Obj)) (s : Shared) (σ : St) (H : Hp) (Q : List (V × V) → Hp → Prop), Inv X pins σ H s → tPairs trs σ H Q →
    wpAny (model X.prog X.w) X.A (evalPairs (pairTrees keys values X.env pos)) (fun vs s' => ∃ ps H', Inv X pins σ H' s' ∧ VV ps vs ∧ Q ps H') X.xe s
theorem pps_nil {X : Cx} {pos : Pos} : PPs X pos [] [] [] := fun pins s σ H Q I h => pairTrees_nil_walk ⟨[], H, I, .nil, h⟩
theorem pps_cons {X : Cx} {pos : Pos} {k v : Expr} {ks : List (Option Expr)} {vs : List Expr} {tk tv : TE} {trs : List (TE × TE)} (hk : PE X k tk) (hv : PE X v tv) (hr : PPs X pos ks vs trs) :
    PPs X pos (some k :: ks) (v :: vs) ((tk, tv) :: trs) := fun pins s σ H Q I h =>
  pairTrees_cons_walk (thn (hk pins s σ H _ I h) fun u s1 ⟨x, H1, I1, rx, q1⟩ => thn (hv pins s1 σ H1 _ I1 q1) fun w2 s2 ⟨y, H2, I2, ry, q2⟩ =>
    thn (hr pins s2 σ H2 _ I2 q2) fun ws s3 ⟨ps, H3, I3, rel, q3⟩ => ⟨(x, y) :: ps, H3, I3, .cons ⟨rx, ry⟩ rel, q3⟩)

def mergeK (kvs more : List (Key × V)) : List (Key × V) := more.foldl (fun acc kv => putK acc kv.1 kv.2) kvs
theorem KV.merge : ∀ {more : List (Key × V)} {rs : List (Key × Value)} {kvs : List (Key × V)} {vs : List (Key × Value)}, KV more rs → KV kvs vs → KV (mergeK kvs more) (merged vs rs) := by
  intro more rs kvs vs r
  unfold KV at r
  induction r generalizing kvs vs with
  | nil => intro q; exact q
  | @cons p q ps qs h t ih =>
    intro r0
    have e : KV (putK kvs p.1 p.2) (stored vs q.1 q.2) := by
      have := r0.put p.1 h.2
      rw [← h.1]; exact this
    exact ih e
theorem length_mergeK : ∀ (more kvs : List (Key × V)), (mergeK kvs more).length ≤ kvs.length + more.length
  | [], kvs => by show kvs.length ≤ kvs.length + 0; omega
  | p :: r, kvs => by
    have h1 := length_mergeK r (putK kvs p.1 p.2)
    have h2 := length_putK kvs p.1 p.2
    show (mergeK (putK kvs p.1 p.2) r).length ≤ _
    rw [List.length_cons]; omega
theorem carries_of {P : Program} {w : World} : ∀ {kvs : List (Key × V)} {ws : List (Value × Value)}, VV (kvs.map fun kv => (kV kv.1, kv.2)) ws → ∃ rs, Carries (mixKind P w) ws rs ∧ KV kvs rs
  | [], _, r => by rw [List.map_nil] at r; cases r; exact ⟨[], True.intro, .nil⟩
  | p :: kvs, _, r => by
    rw [List.map_cons] at r
    cases r with
    | @cons a b as bs h t =>
      obtain ⟨rs, c, q⟩ := carries_of (P := P) (w := w) t
      obtain ⟨b1, b2⟩ := b
      exact ⟨(p.1, b2) :: rs, ⟨kV_is h.1, rfl, c⟩, .cons ⟨rfl, h.2⟩ q⟩
/-- {k: v, ..} with keys ints and texts; the new dict stands empty while the pairs are made -/
def tDisp (trs : List (TE × TE)) : TE := fun σ H Q => ∀ p, H p = none → tPairs trs σ (upd H p (.dK [])) fun ps H2 => H2 p = some (.dK []) ∧ ∃ kvs : List (Key × V), ps = kvs.map (fun kv => (kV kv.1, kv.2)) ∧ kvs.length ≤ 15 ∧ Q (.ref p) (upd H2 p (.dK (mergeK [] kvs)))
theorem pe_disp {X : Cx} {pos : Pos} {keys : List (Option Expr)} {values : List Expr} {trs : List (TE × TE)} (h : PPs X pos keys values trs) (hall : keys.all (·.isSome) = true) (hl : keys.length = values.length) (h0 : keys ≠ [])
    (h15 : keys.length ≤ 15) : PE X (.Dict keys values pos) (tDisp trs) := by
  intro pins s σ H Q I q
  have hn := I.hok.fresh (Nat.le_refl s.heap.objs.size)
  have I1 := I.laid (a := s.heap.objs.size) (o := .dK []) (h' := s.heap.push { cls := .type "dict", data := .dict #[] }) (t' := s.toks) (fun _ _ q => Heap.get?_push_of_some _ q) (Nat.le_refl _) (dk_empty s.heap I.big)
  refine wpAny_Dict_walk (knd := mixKind X.prog X.w) hall hl h0 h15 (thn (h pins _ σ _ _ I1 (q _ hn)) fun ws s2 ⟨ps, H2, I2, rel, e, kvs, ep, lk, q2⟩ => ?_)
  subst ep
  obtain ⟨rs, c, rk⟩ := carries_of (P := X.prog) (w := X.w) rel
  obtain ⟨z, hd, vs0, r0, dd⟩ := dk_of I2.hok e
  cases r0
  refine ⟨rs, c, dd, fun h' dd' hs => ⟨.ref s.heap.objs.size, _, ?_, rfl, q2⟩⟩
  have hz : (mergeK [] kvs).length ≤ sizeLine := by
    have h1 := length_mergeK kvs []
    rw [List.length_nil] at h1
    rw [sizeLine_eq]; omega
  have he : ∃ q, h'.get? s.heap.objs.size = some q := let ⟨q, _, _, hq, _⟩ := dd'; ⟨q, hq⟩
  exact d_write I2 (by rw [e]; exact True.intro) hs he (dk_new hz hd (rk.merge .nil) dd')


/-! ### methods -/
/-- a method call o.m(e) of a built-in, with one argument: what must be seen of the text -/
structure M1 (X : Cx) (o : Expr) (m : Str) (apos : Pos) (e : Expr) (cpos : Pos) : Prop where
  base : attributeBase o m X.env (eval o X.env) = eval o X.env
  few : ((backTo cpos (starEach [e] X.env)).all (fun x => !x.1) && (backToKw cpos (keywordEach [] X.env)).all (fun x => x.1.isSome)
    && decide (([e] : List Expr).length + ([] : List Keyword).length + (if ([] : List Keyword).isEmpty then 0 else 1) < 30)) = true
  line : (apos.endLine == cpos.line) = true
  trees : backTo cpos (starEach [e] X.env) = [(false, eval e X.env)]
structure M2 (X : Cx) (o : Expr) (m : Str) (apos : Pos) (e f : Expr) (cpos : Pos) : Prop where
  base : attributeBase o m X.env (eval o X.env) = eval o X.env
  few : ((backTo cpos (starEach [e, f] X.env)).all (fun x => !x.1) && (backToKw cpos (keywordEach [] X.env)).all (fun x => x.1.isSome)
    && decide (([e, f] : List Expr).length + ([] : List Keyword).length + (if ([] : List Keyword).isEmpty then 0 else 1) < 30)) = true
  line : (apos.endLine == cpos.line) = true
  trees : backTo cpos (starEach [e, f] X.env) = [(false, eval e X.env), (false, eval f X.env)]

/-- a is a dict, whatever its keys -/
def IsD (H : Hp) (a : Addr) : Prop := (∃ kvs, Rd H a (.dK kvs)) ∨ ∃ kvs, Rd H a (.dT kvs)
theorem isD_at {X : Cx} {pins : List (Addr × Obj)} {σ : St} {H : Hp} {s : Shared} {a : Addr} (I : Inv X pins σ H s) (d : IsD H a) :
    s.TypeIs (.ref a) "dict" ∧ (∀ b, Value.ref a = .ref b → ∃ ob, s.heap.get? b = some ob ∧ ob.dict = none) ∧ (a == sysModules) = false := by
  rcases d with ⟨kvs, e⟩ | ⟨kvs, e⟩
  · obtain ⟨_, hd, vs, _, dd⟩ := dk_rd I.hok e
    refine ⟨dd.typeIs, fun b q => ?_, hd⟩
    cases q
    obtain ⟨ob, _, _, h1, h2, _⟩ := dd
    exact ⟨ob, h1, h2.2.1⟩
  · obtain ⟨_, hd, xs, _, dd⟩ := dt_rd I.hok e
    refine ⟨dd.typeIs, fun b q => ?_, hd⟩
    cases q
    obtain ⟨ob, _, _, h1, h2, _⟩ := dd
    exact ⟨ob, h1, h2.2.1⟩

section
variable {X : Cx} {pins : List (Addr × Obj)} {σ : St} {H : Hp} {s : Shared} {a : Addr} {y d : V} {u r : Value} {o : Option V} {A : Around} {E : Value → Shared → Prop}
/-- d.get(y) -/
theorem d_get1 {Q : Value → Shared → Prop} (hu : A.units + 1 < cLine) (I : Inv X pins σ H s) (g : DGet H a y o) (ry : RelV y u) (h : ∀ w' s', Inv X pins σ H s' → RelV (o.getD .non) w' → Q w' s') :
    wpAny (model X.prog X.w) A (call (.builtin "dict.get") [.ref a, u]) Q E s := by
  rcases g with ⟨kvs, k, e, ey, l⟩ | ⟨kvs, k, b, e, ey, eb, l⟩
  · subst ey
    obtain ⟨z, hd, vs, rel, dd⟩ := dk_rd I.hok e
    refine call_meetsIn PySem.F.slot_dict_get dd.typeIs PySem.F.entry_dict_get (PySem.F.args_dict_get_2 _ _) (meets_dict_get (mixKind X.prog X.w) a (kV_is ry) hd) ⟨_, dd.mapOf, h _ _ (I.tok _) ?_⟩
    rw [l]
    exact (rel.val k).getD rfl
  · subst ey
    cases (show u = Value.ref b from ry)
    obtain ⟨z, hd, xs, rel, dd⟩ := dt_rd I.hok e
    refine call_meetsIn PySem.F.slot_dict_get dd.typeIs PySem.F.entry_dict_get (PySem.F.args_dict_get_2 _ _) (meetsH_dict_get (tupleKind (mixKind X.prog X.w)) a b hd) ⟨tupleKind_room_in1 hu, k, xs, key_of I.hok eb, dd, h _ _ (I.tok _) ?_⟩
    rw [l]
    exact (rel.val k).getD rfl
/-- d.get(y, x) -/
theorem d_get2 {Q : Value → Shared → Prop} (hu : A.units + 1 < cLine) (I : Inv X pins σ H s) (g : DGet H a y o) (ry : RelV y u) (rd : RelV d r) (h : ∀ w' s', Inv X pins σ H s' → RelV (o.getD d) w' → Q w' s') :
    wpAny (model X.prog X.w) A (call (.builtin "dict.get") [.ref a, u, r]) Q E s := by
  rcases g with ⟨kvs, k, e, ey, l⟩ | ⟨kvs, k, b, e, ey, eb, l⟩
  · subst ey
    obtain ⟨z, hd, vs, rel, dd⟩ := dk_rd I.hok e
    refine call_meetsIn PySem.F.slot_dict_get dd.typeIs PySem.F.entry_dict_get (PySem.F.args_dict_get_3 _ _ _) (meets_dict_get_default (mixKind X.prog X.w) a (kV_is ry) hd r) ⟨_, dd.mapOf, h _ _ (I.tok _) ?_⟩
    rw [l]
    exact (rel.val k).getD rd
  · subst ey
    cases (show u = Value.ref b from ry)
    obtain ⟨z, hd, xs, rel, dd⟩ := dt_rd I.hok e
    refine call_meetsIn PySem.F.slot_dict_get dd.typeIs PySem.F.entry_dict_get (PySem.F.args_dict_get_3 _ _ _) (meetsH_dict_get_default (tupleKind (mixKind X.prog X.w)) a b hd r) ⟨tupleKind_room_in1 hu, k, xs, key_of I.hok eb, dd, h _ _ (I.tok _) ?_⟩
    rw [l]
    exact (rel.val k).getD rd
end

def tDGet1 (td ty : TE) : TE := fun σ H Q => td σ H fun x H1 => ∃ a, x = .ref a ∧ IsD H1 a ∧ ty σ H1 fun y H2 => ∃ o, DGet H2 a y o ∧ Q (o.getD .non) H2
def tDGet2 (td ty tx : TE) : TE := fun σ H Q => td σ H fun x H1 => ∃ a, x = .ref a ∧ IsD H1 a ∧ ty σ H1 fun y H2 => tx σ H2 fun z H3 => ∃ o, DGet H3 a y o ∧ Q (o.getD z) H3
/-- d.pop(k): there; d.pop(k, x): there or not -/
def tDPop1 (td ty : TE) : TE := fun σ H Q => td σ H fun x H1 => ∃ a, x = .ref a ∧ IsD H1 a ∧ ty σ H1 fun y H2 => ∃ kvs k v, H2 a = some (.dK kvs) ∧ y = kV k ∧ valV kvs k = some v ∧ Q v (upd H2 a (.dK (dropK kvs k)))
def tDPop2 (td ty tx : TE) : TE := fun σ H Q => td σ H fun x H1 => ∃ a, x = .ref a ∧ IsD H1 a ∧ ty σ H1 fun y H2 => tx σ H2 fun z H3 => ∃ kvs k, H3 a = some (.dK kvs) ∧ y = kV k ∧
  (∀ v, valV kvs k = some v → Q v (upd H3 a (.dK (dropK kvs k)))) ∧ (valV kvs k = none → Q z H3)
section
variable {X : Cx} {o e f : Expr} {apos cpos : Pos} {td ty tx : TE}
theorem pe_dget1 (hu : X.A.units + 1 < cLine) (ho : PE X o td) (he : PE X e ty) (m : M1 X o "get" apos e cpos) : PE X (.Call (.Attribute o "get" apos) [e] [] cpos) (tDGet1 td ty) := by
  intro pins s σ H Q I h
  refine wpAny_Call_method m.base m.few m.line PySem.F.plainAttrs_dict PySem.F.slot_dict_get PySem.F.type_dict_get (thn (ho pins s σ H _ I h) fun u s1 ⟨x, H1, I1, rx, a, ex, d, q1⟩ => ?_)
  subst ex
  obtain rfl : u = Value.ref a := rx
  obtain ⟨t1, t2, _⟩ := isD_at I1 d
  refine ⟨t1, t2, ?_⟩
  rw [m.trees]
  refine Calls.callWith_builtin rfl (Calls.evalArgs_plain (Calls.spliced_cons (thn (he pins s1 σ H1 _ I1 q1) fun iv s2 ⟨y, H2, I2, ry, ov, g, q2⟩ => Calls.spliced_nil ?_)))
  exact d_get1 hu I2 g ry fun w' s3 I3 rw' => ⟨_, H2, I3, rw', q2⟩
theorem pe_dget2 (hu : X.A.units + 1 < cLine) (ho : PE X o td) (he : PE X e ty) (hf : PE X f tx) (m : M2 X o "get" apos e f cpos) : PE X (.Call (.Attribute o "get" apos) [e, f] [] cpos) (tDGet2 td ty tx) := by
  intro pins s σ H Q I h
  refine wpAny_Call_method m.base m.few m.line PySem.F.plainAttrs_dict PySem.F.slot_dict_get PySem.F.type_dict_get (thn (ho pins s σ H _ I h) fun u s1 ⟨x, H1, I1, rx, a, ex, d, q1⟩ => ?_)
  subst ex
  obtain rfl : u = Value.ref a := rx
  obtain ⟨t1, t2, _⟩ := isD_at I1 d
  refine ⟨t1, t2, ?_⟩
  rw [m.trees]
  refine Calls.callWith_builtin rfl (Calls.evalArgs_plain (Calls.spliced_cons (thn (he pins s1 σ H1 _ I1 q1) fun iv s2 ⟨y, H2, I2, ry, q2⟩ =>
    Calls.spliced_cons (thn (hf pins s2 σ H2 _ I2 q2) fun fv s3 ⟨z, H3, I3, rz, ov, g, q3⟩ => Calls.spliced_nil ?_))))
  exact d_get2 hu I3 g ry rz fun w' s4 I4 rw' => ⟨_, H3, I4, rw', q3⟩
theorem pe_dpop1 (ho : PE X o td) (he : PE X e ty) (m : M1 X o "pop" apos e cpos) : PE X (.Call (.Attribute o "pop" apos) [e] [] cpos) (tDPop1 td ty) := by
  intro pins s σ H Q I h
  refine wpAny_Call_method m.base m.few m.line PySem.F.plainAttrs_dict PySem.F.slot_dict_pop PySem.F.type_dict_pop (thn (ho pins s σ H _ I h) fun u s1 ⟨x, H1, I1, rx, a, ex, d, q1⟩ => ?_)
  subst ex
  obtain rfl : u = Value.ref a := rx
  obtain ⟨t1, t2, _⟩ := isD_at I1 d
  refine ⟨t1, t2, ?_⟩
  rw [m.trees]
  refine Calls.callWith_builtin rfl (Calls.evalArgs_plain (Calls.spliced_cons (thn (he pins s1 σ H1 _ I1 q1) fun iv s2 ⟨y, H2, I2, ry, kvs, k, v, ea, ey, l, q2⟩ => Calls.spliced_nil ?_)))
  subst ey
  exact d_pop I2 ea ry l (.inl rfl) fun w' s3 I3 rw' => ⟨v, _, I3, rw', q2⟩
theorem pe_dpop2 (ho : PE X o td) (he : PE X e ty) (hf : PE X f tx) (m : M2 X o "pop" apos e f cpos) : PE X (.Call (.Attribute o "pop" apos) [e, f] [] cpos) (tDPop2 td ty tx) := by
  intro pins s σ H Q I h
  refine wpAny_Call_method m.base m.few m.line PySem.F.plainAttrs_dict PySem.F.slot_dict_pop PySem.F.type_dict_pop (thn (ho pins s σ H _ I h) fun u s1 ⟨x, H1, I1, rx, a, ex, d, q1⟩ => ?_)
  subst ex
  obtain rfl : u = Value.ref a := rx
  obtain ⟨t1, t2, _⟩ := isD_at I1 d
  refine ⟨t1, t2, ?_⟩
  rw [m.trees]
  refine Calls.callWith_builtin rfl (Calls.evalArgs_plain (Calls.spliced_cons (thn (he pins s1 σ H1 _ I1 q1) fun iv s2 ⟨y, H2, I2, ry, q2⟩ =>
    Calls.spliced_cons (thn (hf pins s2 σ H2 _ I2 q2) fun fv s3 ⟨z, H3, I3, rz, kvs, k, ea, ey, q3, q4⟩ => Calls.spliced_nil ?_))))
  subst ey
  cases l : valV kvs k with
  | some v => exact d_pop I3 ea ry l (.inr ⟨fv, rfl⟩) fun w' s4 I4 rw' => ⟨v, _, I4, rw', q3 v l⟩
  | none => exact d_popD I3 ea ry l fun s4 I4 => ⟨z, H3, I4, rz, q4 l⟩
end

/-! ### dict(d): a copy -/
section
variable {X : Cx} {pins : List (Addr × Obj)} {σ : St} {H : Hp} {s : Shared} {a : Addr} {kvs : List (Key × V)} {A : Around} {E : Value → Shared → Prop}
theorem d_copyOf {Q : Value → Shared → Prop} (I : Inv X pins σ H s) (e : Rd H a (.dK kvs)) (h : ∀ p s', H p = none → Inv X pins σ (upd H p (.dK kvs)) s' → Q (.ref p) s') : wpAny (model X.prog X.w) A (call (.type "dict") [.ref a]) Q E s := by
  obtain ⟨z, hd, vs, rel, dd⟩ := dk_rd I.hok e
  refine kt_call_dict hd dd (by rw [← rel.length]; exact z) fun h' dd' hs => ?_
  refine h _ _ (I.hok.fresh (Nat.le_refl _)) (I.laid (a := s.heap.objs.size) (o := .dK kvs) (t' := s.toks) (fun b q hq => ?_) (Nat.le_refl _) (dk_new z (beq_eq_false_iff_ne.mpr (Ne.symm (Nat.ne_of_lt I.big))) rel dd'))
  exact (hs.2 b (Nat.ne_of_lt (Heap.lt_size hq))).trans (Heap.get?_push_of_some _ hq)
end


section
variable {X : Cx} {pins : List (Addr × Obj)} {σ : St} {H : Hp} {s : Shared} {a : Addr} {y : V} {u : Value} {A : Around} {E : Value → Shared → Prop}
/-- d[y], not there: a KeyError -/
theorem d_missing {Q : Value → Shared → Prop} (hu : A.units + 1 < cLine) (hh : A.handled = none) (I : Inv X pins σ H s) (g : DGet H a y none) (ry : RelV y u)
    (h : ∀ h' e t', Heap.NewExc s.heap h' e "KeyError" → E (.ref e) { s with heap := h', toks := t' }) : wpAny (model X.prog X.w) A (getItem (.ref a) u) Q E s := by
  rcases g with ⟨kvs, k, e, ey, l⟩ | ⟨kvs, k, b, e, ey, eb, l⟩
  · subst ey
    obtain ⟨z, hd, vs, rel, dd⟩ := dk_rd I.hok e
    have hn : valueAt vs k = none := RelO.none_of (by rw [l]; exact rel.val k)
    exact wpAny_getItem_missing_of (kV_is ry) hd hh dd.mapOf hn fun h' ex ne => h h' ex _ ne
  · subst ey
    cases (show u = Value.ref b from ry)
    obtain ⟨z, hd, xs, rel, dd⟩ := dt_rd I.hok e
    have hn : (atKey xs k).map (·.2) = none := RelO.none_of (by rw [l]; exact rel.val k)
    exact wpAny_getItem_missing_heap (tupleKind_room_in1 hu) (key_of I.hok eb) hd hh dd (Option.map_eq_none_iff.mp hn) fun h' ex ne => h h' ex _ ne
end
end L2

namespace HT
open PySem PyProof.Rows

/-- t < u of tuples of ints -/
def lexLt : List Int → List Int → Bool
  | [], [] => false
  | [], _ :: _ => true
  | _ :: _, [] => false
  | x :: xs, y :: ys => if x = y then lexLt xs ys else decide (x < y)
theorem lexLt_cons (x y : Int) (xs ys : List Int) : lexLt (x :: xs) (y :: ys) = if x = y then lexLt xs ys else decide (x < y) := rfl
theorem lexLt_nil_nil : lexLt [] [] = false := rfl
theorem lexLt_nil_cons (y : Int) (ys : List Int) : lexLt [] (y :: ys) = true := rfl
theorem lexLt_cons_nil (x : Int) (xs : List Int) : lexLt (x :: xs) [] = false := rfl

theorem eqAt_int (A : Around) (s : Shared) (a : Int) (t : Tok) (c : Int) (u : Tok) : ∃ e, SeqAt.EqAt A s (.int a t) (.int c u) e ∧ (e = true ↔ a = c) :=
  ⟨(a == c), SeqAt.EqAt.int_int a t c u, by simp⟩
theorem rcLt_int (A : Around) (s : Shared) (a : Int) (t : Tok) (c : Int) (u : Tok) (prog : Program) (w : World) (E : Value → Shared → Prop) (Q : Value → Shared → Prop) (h : Q (.bool (decide (a < c))) s) :
    wpAny (model prog w) A (richCompare .Lt (.int a t) (.int c u)) Q E s :=
  (PyProof.Rows.lt_int h : wpAny (model prog w) A (compareOp .Lt (.int a t) (.int c u)) Q E s)

section
open PySem.SeqAt
open PySem.AutoSeq1 (wpAny_loadPart')
open PySem.MeetsSeq PySem.MeetsSeq2 PySem.MeetsSeq3

theorem tuple_lt_ints (l b : Addr) (items items2 : Array Value) (n n2 : Nat) (dd dd2 : Option Addr) (sl sl2 : Array (Option Value)) (ns ms : List Int) (hi : IntsAre items.toList ns) (hj : IntsAre items2.toList ms) :
    Meets (Builtin.«tuple.__lt__» ⟨[.ref l, .ref b], []⟩)
      (fun _ R s => s.heap.get? l = some { cls := .type "tuple", dict := dd, data := .seq items n, slots := sl } ∧ s.heap.get? b = some { cls := .type "tuple", dict := dd2, data := .seq items2 n2, slots := sl2 } ∧
        R (.ok (.ret (.bool (lexLt ns ms)))) s) :=
  .of_wp fun prog w A R s h => by
    obtain ⟨hp, g, d, tk, os⟩ := s; obtain ⟨hl, hb, h⟩ := h
    have f2 := AutoSeq1.sub_tuple_tuple
    have z1 : items.size = ns.length := by rw [← hi.length]; simp
    have z2 : items2.size = ms.length := by rw [← hj.length]; simp
    wp_walk using wpAny_loadPart' hl, wpAny_loadPart' hb, wpAny_forIn_list _ (fun rest b s' => b.1 = none ∧ s' = ⟨hp, g, d, tk, os⟩ ∧ ∃ (vs ws : List Value) (ns' ms' : List Int), rest = vs.zip ws ∧
      IntsAre vs ns' ∧ IntsAre ws ms' ∧ ns'.length + items2.size = ms'.length + items.size ∧ R (.ok (.ret (.bool (lexLt ns' ms')))) ⟨hp, g, d, tk, os⟩) _
    case turn =>
      rintro ⟨y, x⟩ rest b s' ⟨hb', rfl, vs, ws, ns', ms', hz, hvi, hwi, hlen, hR⟩
      cases hvi with
      | nil => rw [List.zip_nil_left] at hz; cases hz
      | cons a t hvi' =>
        cases hwi with
        | nil => rw [List.zip_nil_right] at hz; cases hz
        | cons c u hwi' =>
          rw [List.zip_cons_cons] at hz
          injection hz with hyx hrest
          injection hyx with hy hx
          subst hy hx
          rw [lexLt_cons] at hR
          simp only [List.length_cons] at hlen
          obtain ⟨e, he, hiff⟩ := eqAt_int A.in1 ⟨hp, g, d, tk, os⟩ a t c u
          refine wpAny_bind (he prog w _ _ ?_)
          cases e with
          | true =>
            rw [if_pos (hiff.mp rfl)] at hR
            wp_walk
            exact ⟨rfl, rfl, _, _, _, _, hrest, hvi', hwi', by omega, hR⟩
          | false =>
            rw [if_neg (fun q => absurd (hiff.mpr q) Bool.false_ne_true)] at hR
            have hri := rcLt_int A.in1 ⟨hp, g, d, tk, os⟩ a t c u prog w
            wp_walk using hri
            exact ⟨_, rfl, by simpa using hR⟩
    case fin =>
      rintro ⟨b1, b2⟩ s' ⟨hb', rfl, vs, ws, ns', ms', hz, hvi, hwi, hlen, hR⟩
      simp only at hb'
      subst hb'
      have hv : lexLt ns' ms' = decide (items.size < items2.size) := by
        cases hvi with
        | nil =>
          cases hwi with
          | nil =>
            simp only [List.length_nil] at hlen
            rw [lexLt_nil_nil]
            exact (decide_eq_false (by omega)).symm
          | cons c u hw =>
            simp only [List.length_nil, List.length_cons] at hlen
            rw [lexLt_nil_cons]
            exact (decide_eq_true (by omega)).symm
        | cons a t hv =>
          cases hwi with
          | nil =>
            simp only [List.length_nil, List.length_cons] at hlen
            rw [lexLt_cons_nil]
            exact (decide_eq_false (by omega)).symm
          | cons c u hw =>
            rw [List.zip_cons_cons] at hz
            cases hz
      rw [hv] at hR
      wp_walk
      exact ⟨_, rfl, by simpa [Builtin.Tuple.tupleCompareSizes] using hR⟩
    case h =>
      exact ⟨rfl, rfl, items.toList, items2.toList, ns, ms, rfl, hi, hj, by omega, h⟩
end

section
variable {prog : Program} {w : World} {A : Around} {E : Value → Shared → Prop} {s : Shared}

theorem lt_tupInts {l b : Addr} {items items2 : Array Value} {ns ms : List Int} {Q : Value → Shared → Prop} (hl : IsTup s.heap l items) (hb : IsTup s.heap b items2) (hi : IntsAre items.toList ns) (hj : IntsAre items2.toList ms)
    (hu : A.units < cLine) (h : Q (.bool (lexLt ns ms)) s) : wpAny (model prog w) A (compareOp .Lt (.ref l) (.ref b)) Q E s := by
  obtain ⟨⟨cls, dd, data, sl⟩, ho, hc, n, hd⟩ := id hl
  obtain ⟨⟨cls2, dd2, data2, sl2⟩, ho2, hc2, n2, hd2⟩ := id hb
  simp only at hc hd hc2 hd2
  subst hc hd hc2 hd2
  exact richCompare_meets_room (op := .Lt) ⟨_, ho, rfl⟩ ⟨_, ho2, rfl⟩ PySem.F.slot_tuple_lt PySem.F.entry_tuple_lt (PySem.F.args_tuple_lt_2 _ _) (tuple_lt_ints l b items items2 n n2 dd dd2 sl sl2 ns ms hi hj)
    ⟨ho, ho2, show Value.bool (lexLt ns ms) ≠ Value.notImplemented ∧ Q (.bool (lexLt ns ms)) s from ⟨(fun x => nomatch x), h⟩⟩ hu

/-- t + u, t not empty -/
theorem cat_tup {t b : Addr} {vs ws : List Value} {Q : Value → Shared → Prop} (ht : IsTup s.heap t vs.toArray) (hb : IsTup s.heap b ws.toArray) (hv : vs ≠ [])
    (h1 : ws = [] → Q (.ref t) s) (h2 : ws ≠ [] → Q (.ref s.heap.objs.size) { s with heap := s.heap.push { cls := .type "tuple", data := .seq (vs ++ ws).toArray } })
    (hsz : vs.length + ws.length ≤ sizeLine) : wpAny (model prog w) A (binaryOp .Add (.ref t) (.ref b)) Q E s := by
  obtain ⟨⟨cls, dd, data, sl⟩, ho, hc, n, hd⟩ := id ht
  obtain ⟨⟨cls2, dd2, data2, sl2⟩, ho2, hc2, n2, hd2⟩ := id hb
  simp only at hc hd hc2 hd2
  subst hc hd hc2 hd2
  have e : vs.toArray ++ ws.toArray = (vs ++ ws).toArray := by simp
  by_cases hw : ws = []
  · exact concat_meets ⟨_, ho, rfl⟩ ⟨_, ho2, rfl⟩ noFill_tuple_add seq_tuple_add PySem.F.slot_tuple_add PySem.F.entry_tuple_add (PySem.F.args_tuple_add_2 _ _)
      (tuple_addW1 t b vs.toArray ws.toArray n n2 dd dd2 sl sl2 (by simpa using hv) (by simp [hw])) ⟨ho, ho2, h1 hw⟩
  · refine concat_meets ⟨_, ho, rfl⟩ ⟨_, ho2, rfl⟩ noFill_tuple_add seq_tuple_add PySem.F.slot_tuple_add PySem.F.entry_tuple_add (PySem.F.args_tuple_add_2 _ _)
      (tuple_addW2 t b vs.toArray ws.toArray n n2 dd dd2 sl sl2 (by simpa using hv) (by simpa using hw) (by rw [List.size_toArray, List.size_toArray]; exact hsz)) ⟨ho, ho2, ?_⟩
    rw [e]
    exact h2 hw

/-! ### t[a:b], not the whole -/
/-- a slice's bound as a place among n (d where it is left out) -/
def sIx (n d : Nat) : Option Int → Nat
  | none => d
  | some v => if v < 0 then (v + (n : Int)).toNat else min v.toNat n
theorem sIx_none (n d : Nat) : sIx n d none = d := rfl
theorem sIx_nat (n d k : Nat) : sIx n d (some (k : Int)) = min k n := by
  show (if (k : Int) < 0 then ((k : Int) + (n : Int)).toNat else min (k : Int).toNat n) = min k n
  rw [if_neg (by omega), Int.toNat_natCast]
theorem sIx_le (n d : Nat) (hd : d ≤ n) (o : Option Int) : sIx n d o ≤ n := by
  cases o with
  | none => exact hd
  | some v =>
    show (if v < 0 then (v + (n : Int)).toNat else min v.toNat n) ≤ n
    by_cases hv : v < 0
    · rw [if_pos hv]; omega
    · rw [if_neg hv]; exact Nat.min_le_right _ _
theorem clip_eq (v : Int) (n d : Nat) : (if v < 0 then max (v + (n : Int)) 0 else min v (n : Int)) = ((sIx n d (some v) : Nat) : Int) := by
  show (if v < 0 then max (v + (n : Int)) 0 else min v (n : Int)) = (((if v < 0 then (v + (n : Int)).toNat else min v.toNat n) : Nat) : Int)
  by_cases hv : v < 0
  · simp only [if_pos hv]; omega
  · simp only [if_neg hv]; omega
theorem adjust_gen (lo hi : Option Int) (n : Nat) : Builtin.Slice.sliceAdjust lo hi 1 (n : Int) = (((sIx n 0 lo : Nat) : Int), ((sIx n n hi : Nat) : Int)) := by
  have h1 : ¬ ((1 : Int) < 0) := by omega
  unfold Builtin.Slice.sliceAdjust
  simp only [h1, if_false]
  refine Prod.ext ?_ ?_
  · cases lo with
    | none => rfl
    | some v => exact clip_eq v n 0
  · cases hi with
    | none => rfl
    | some v => exact clip_eq v n n
theorem places_gen (i j : Nat) : Builtin.Slice.slicePlaces (i : Int) (j : Int) 1 = j - i := by
  unfold Builtin.Slice.slicePlaces
  have h1 : (1 : Int) > 0 := by omega
  simp only [h1, if_true, Int.ediv_one]
  split <;> omega
theorem slicePart_ {v : Value} {o : Option Int} {Q : Option Int → Shared → Prop} (p : IsPart v o) (h : Q o s) : wpAny (model prog w) A (Builtin.Slice.slicePartIndex v) Q E s := by
  cases p with
  | none => exact slicePart_none h
  | int i t => exact slicePart_int h
theorem sliceApplied_gen {sl : Addr} {vl vu : Value} {lo hi : Option Int} {n : Nat} {Q : Int × Int × Nat → Shared → Prop} (hs : s.heap.IsSliceOf sl vl vu .none) (pl : IsPart vl lo) (pu : IsPart vu hi)
    (h : Q (((sIx n 0 lo : Nat) : Int), 1, sIx n n hi - sIx n 0 lo) s) : wpAny (model prog w) A (Builtin.Slice.sliceApplied (.ref sl) (pure (n : Int))) Q E s := by
  obtain ⟨os, hos, hcs, hds⟩ := id hs
  unfold Builtin.Slice.sliceApplied Builtin.Slice.sliceFields
  refine wpAny_bind (wpAny_bind (wpAny_field hos hds (x := vl) rfl (wpAny_bind (wpAny_field hos hds (x := vu) rfl (wpAny_bind (wpAny_field hos hds (x := .none) rfl (wpAny_pure ?_)))))))
  refine wpAny_bind (slicePart_none ?_)
  show wpAny _ _ (if ((1 : Int) == 0) = true then _ else _) _ _ s
  rw [if_neg (by decide)]
  refine wpAny_bind (slicePart_ pl (wpAny_bind (slicePart_ pu (wpAny_bind (wpAny_pure ?_)))))
  show wpAny _ _ (match Builtin.Slice.sliceAdjust lo hi 1 (n : Int) with | (lo, hi) => pure (lo, (1 : Int), Builtin.Slice.slicePlaces lo hi 1)) _ _ s
  rw [adjust_gen lo hi n]
  show wpAny _ _ (pure (((sIx n 0 lo : Nat) : Int), (1 : Int), Builtin.Slice.slicePlaces ((sIx n 0 lo : Nat) : Int) ((sIx n n hi : Nat) : Int) 1)) _ _ s
  rw [places_gen]
  exact wpAny_pure h
theorem pick_gen (xs : Array Value) (i k : Nat) : ((List.range k).filterMap fun (m : Nat) => xs[((i : Int) + (m : Int) * 1).toNat]?).toArray = ((xs.toList.drop i).take k).toArray := by
  have e : (fun (m : Nat) => xs[((i : Int) + (m : Int) * 1).toNat]?) = fun m => xs[i + m]? := by
    funext m
    have : ((i : Int) + (m : Int) * 1).toNat = i + m := by omega
    rw [this]
  rw [e]
  have := pick_run xs i k
  rw [List.filterMap_map] at this
  have e2 : ((fun x => xs[x]?) ∘ fun x => i + x) = fun m => xs[i + m]? := rfl
  rw [e2] at this
  rw [this]

theorem getItem_tuple_cut {t sl : Addr} {items : Array Value} {vl vu : Value} {lo hi : Option Int} {Q : Value → Shared → Prop} (ht : IsTup s.heap t items) (hs : s.heap.IsSliceOf sl vl vu .none) (pl : IsPart vl lo) (pu : IsPart vu hi)
    (hw : ¬ (sIx items.size 0 lo = 0 ∧ sIx items.size items.size hi = items.size))
    (h : Q (.ref s.heap.objs.size) { s with heap := s.heap.push { cls := .type "tuple", data := .seq ((items.toList.drop (sIx items.size 0 lo)).take (sIx items.size items.size hi - sIx items.size 0 lo)).toArray } })
    (hsz : items.size ≤ sizeLine) : wpAny (model prog w) A (getItem (.ref t) (.ref sl)) Q E s := by
  have htake : sizeOk (.seq ((items.toList.drop (sIx items.size 0 lo)).take (sIx items.size items.size hi - sIx items.size 0 lo)).toArray) := by
    show ((items.toList.drop (sIx items.size 0 lo)).take (sIx items.size items.size hi - sIx items.size 0 lo)).toArray.size ≤ sizeLine
    rw [List.size_toArray, List.length_take, List.length_drop, Array.length_toList]
    omega
  have hj : sIx items.size items.size hi ≤ items.size := sIx_le _ _ (Nat.le_refl _) hi
  obtain ⟨os, hos, hcs, hds⟩ := id hs
  have hTs : s.TypeIs (.ref sl) "slice" := ⟨os, hos, hcs⟩
  unfold getItem
  try with_reducible refine wpAny_holding ?_
  first | refine wpAny_bind (wpAny_pure ?_) | skip
  refine wpAny_bind (wpAny_sequenceKey ht.typeIs (by decide) ?_)
  refine wpAny_bind (wpAny_callSpecial?_slot (name := Str.ofString "__getitem__") ht.typeIs PyProof.Rows.slot_tuple_getitem
    (wpAny_call_entry PyProof.Rows.slot_tuple_getitem ht.typeIs entry_tuple_getitem ?_ (args_tuple_getitem _ _)))
  show wpAny _ _ (Builtin.Tuple.tupleItemsOf (.ref t) >>= _) _ _ s
  refine wpAny_bind (tupleItemsOf_ ht ?_)
  refine wpAny_bind (wpAny_typeOf hTs ?_)
  rw [if_pos (by decide)]
  refine wpAny_bind (sliceApplied_gen hs pl pu ?_)
  have hno : ¬ ((((sIx items.size 0 lo : Nat) : Int) == 0 && (1 : Int) == 1 && (sIx items.size items.size hi - sIx items.size 0 lo) == items.size) = true) := by
    intro q
    rw [Bool.and_eq_true, Bool.and_eq_true] at q
    have q1 : ((sIx items.size 0 lo : Nat) : Int) = 0 := eq_of_beq q.1.1
    have q2 : sIx items.size items.size hi - sIx items.size 0 lo = items.size := eq_of_beq q.2
    exact hw ⟨by omega, by omega⟩
  show wpAny _ _ (if (((sIx items.size 0 lo : Nat) : Int) == 0 && (1 : Int) == 1 && (sIx items.size items.size hi - sIx items.size 0 lo) == items.size) = true then _ else _) _ _ s
  rw [if_neg hno, pick_gen]
  first
    | exact wpAny_bind (m := Builtin.Tuple.tupleExact _) (wpAny_newObj_type (wpAny_pure ⟨_, rfl, wpAny_pure h⟩) htake)
    | exact wpAny_bind (m := Builtin.Tuple.tupleExact _) (wpAny_newObj_type (wpAny_bind (wpAny_pure (wpAny_pure ⟨_, rfl, wpAny_pure h⟩))) htake)
    | exact wpAny_bind (wpAny_bind (m := Builtin.Tuple.tupleExact _) (wpAny_newObj_type (wpAny_pure (wpAny_pure ⟨_, rfl, wpAny_pure h⟩)) htake))
    | exact wpAny_bind (wpAny_bind (m := Builtin.Tuple.tupleExact _) (wpAny_newObj_type (wpAny_pure ⟨_, rfl, wpAny_pure h⟩) htake))
end
end HT

namespace L2
open PySem PySem.Spec PyProof.Rows

/-! ### the parts of a slice -/
abbrev TO := St → Hp → (Option Int → Hp → Prop) → Prop
/-- a slice's part (left out, or an int) -/
def PO (X : Cx) (e : Option Expr) (t : TO) : Prop :=
  ∀ (pins : List (Addr × Obj)) (s : Shared) (σ : St) (H : Hp) (Q : Option Int → Hp → Prop), Inv X pins σ H s → t σ H Q →
    wpAny (model X.prog X.w) X.A (evalPart e X.env) (fun u s' => ∃ o H', Inv X pins σ H' s' ∧ IsPart u o ∧ Q o H') X.xe s
def tNoPart : TO := fun _ H Q => Q none H
def tPart (t : TE) : TO := fun σ H Q => t σ H fun x H1 => ∃ i, x = .int i ∧ Q (some i) H1

theorem intsAre_of {ns : List Int} : ∀ {us : List Value}, Vals (ns.map V.int) us → IntsAre us ns := by
  induction ns with
  | nil => intro us r; rw [List.map_nil] at r; cases r; exact .nil
  | cons n ns ih =>
    intro us r
    rw [List.map_cons] at r
    cases r with
    | cons r1 r2 =>
      obtain ⟨t, e⟩ := r1
      subst e
      exact .cons n t (ih r2)

section
variable {X : Cx} {e : Expr} {te : TE} {lo hi : Option Expr} {tl th : TO} {pos p2 : Pos}

theorem po_none : PO X none tNoPart := by
  intro pins s σ H Q I h
  rw [evalPart_none]
  exact wpAny_pure ⟨none, H, I, .none, h⟩
theorem po_some (h : PE X e te) : PO X (some e) (tPart te) := by
  intro pins s σ H Q I hw
  rw [evalPart_some]
  refine thn (h pins s σ H _ I hw) fun u s1 ⟨x, H1, I1, r1, q1⟩ => ?_
  obtain ⟨i, rfl, q⟩ := q1
  obtain ⟨t, rfl⟩ := r1
  exact ⟨some i, H1, I1, .int i t, q⟩

/-- what a slice of a value is, by values: the slice object stands at sl -/
def SlR (X : Cx) (r : V → Option Int → Option Int → Hp → VK → Prop) : Prop :=
  ∀ (pins : List (Addr × Obj)) (s : Shared) (σ : St) (H : Hp) (x : V) (v vl vu : Value) (lo hi : Option Int) (sl : Addr) (Q : VK), Inv X pins σ H s → RelV x v → s.heap.IsSliceOf sl vl vu .none → IsPart vl lo → IsPart vu hi → r x lo hi H Q →
    ∃ T id, typeLookup (.type T) "__getitem__" = pure (some (.builtin id)) ∧ s.TypeIs v T ∧ wpAny (model X.prog X.w) X.A (getItem v (.ref sl)) (EP X pins σ Q) X.xe s
theorem SlR.or {r r' : V → Option Int → Option Int → Hp → VK → Prop} (h : SlR X r) (h' : SlR X r') : SlR X (fun x lo hi H Q => r x lo hi H Q ∨ r' x lo hi H Q) := by
  intro pins s σ H x v vl vu lo hi sl Q I rx hs pl pu q
  rcases q with q | q
  · exact h pins s σ H x v vl vu lo hi sl Q I rx hs pl pu q
  · exact h' pins s σ H x v vl vu lo hi sl Q I rx hs pl pu q
def tSl (r : V → Option Int → Option Int → Hp → VK → Prop) (te : TE) (tl th : TO) : TE := fun σ H Q => te σ H fun x H1 => tl σ H1 fun l H2 => th σ H2 fun u H3 => r x l u H3 Q
/-- a[lo:hi], any a -/
theorem pe_slice {r : V → Option Int → Option Int → Hp → VK → Prop} (hr : SlR X r) (he : PE X e te) (hl : PO X lo tl) (hu : PO X hi th) : PE X (.Subscript e (.Slice lo hi none p2) pos) (tSl r te tl th) := by
  intro pins s σ H Q I h
  refine Subscript_ (thn (he pins s σ H _ I h) fun v s1 ⟨x, H1, I1, r1, q1⟩ => ?_)
  refine wpAny_Slice (thn (hl pins s1 σ H1 _ I1 q1) fun vl s2 ⟨l, H2, I2, pl, q2⟩ => thn (hu pins s2 σ H2 _ I2 q2) fun vu s3 ⟨u, H3, I3, pu, q3⟩ => ?_)
  rw [evalPart_none]
  refine wpAny_pure ?_
  have I4 : Inv X pins σ H3 { s3 with heap := s3.heap.push { cls := .type "slice", data := .fields #[vl, vu, .none] } } := I3.kept (t' := s3.toks) fun b ob q => Heap.get?_push_of_some _ q
  obtain ⟨T, id, hT, ht, hg⟩ := hr pins { s3 with heap := s3.heap.push { cls := .type "slice", data := .fields #[vl, vu, .none] } } σ H3 x v vl vu l u s3.heap.objs.size Q I4 r1 (Heap.IsSliceOf.new ..) pl pu q3
  show wpAny (model X.prog X.w) X.A (subscriptTail e (.Slice lo hi none p2) v (.ref s3.heap.objs.size)) (EP X pins σ Q) X.xe { s3 with heap := s3.heap.push { cls := .type "slice", data := .fields #[vl, vu, .none] } }
  exact tail_any (ops := [.ref s3.heap.objs.size, v]) ht hT hg (by with_unfolding_all rfl)

/-- the items of xs[lo:hi] -/
def cutV (xs : List V) (lo hi : Option Int) : List V := (xs.drop (HT.sIx xs.length 0 lo)).take (HT.sIx xs.length xs.length hi - HT.sIx xs.length 0 lo)
theorem cutV_length (xs : List V) (lo hi : Option Int) : (cutV xs lo hi).length ≤ xs.length := by
  unfold cutV
  rw [List.length_take, List.length_drop]
  omega
/-- t[lo:hi], not the whole of it (the whole would be t itself) -/
def rSlT (K : PySem.W.Frag) : V → Option Int → Option Int → Hp → VK → Prop := fun x lo hi H Q => ∃ a xs, x = .ref a ∧ SqT K H a xs ∧
  ¬ (HT.sIx xs.length 0 lo = 0 ∧ HT.sIx xs.length xs.length hi = xs.length) ∧ ∀ p, H p = none → Q (.ref p) (upd H p (.tup (cutV xs lo hi)))
theorem sl_tup : SlR X (rSlT X.K) := by
  intro pins s σ H x v vl vu lo hi sl Q I rx hs pl pu h
  obtain ⟨a, xs, rfl, hx, hw, q⟩ := h
  cases rx
  obtain ⟨its, r, ht, hz⟩ := I.tuple hx
  have hlen : its.toArray.size = xs.length := by rw [List.size_toArray]; exact r.length.symm
  refine ⟨"tuple", _, PyProof.Rows.slot_tuple_getitem.lookup, ht.typeIs, ?_⟩
  refine HT.getItem_tuple_cut ht hs pl pu (by rw [hlen]; exact hw) ?_ (by rw [hlen]; exact hz)
  rw [hlen]
  refine ⟨.ref s.heap.objs.size, _, I.laid (t' := s.toks) (o := .tup (cutV xs lo hi)) (fun b ob q => Heap.get?_push_of_some _ q) (Nat.le_refl _) ?_, rfl, q _ (I.hok.fresh (Nat.le_refl _))⟩
  exact ⟨⟨Nat.le_trans (cutV_length xs lo hi) hz, _, Heap.get?_push_size _ rfl, rfl⟩, _, (r.drop (HT.sIx xs.length 0 lo)).take (HT.sIx xs.length xs.length hi - HT.sIx xs.length 0 lo), IsTup.new _ _⟩

/-! ### t < u, t + u -/
def rLtT (K : PySem.W.Frag) : R2 := fun x y H Q => ∃ a b ns ms, x = .ref a ∧ y = .ref b ∧ SqT K H a (ns.map V.int) ∧ SqT K H b (ms.map V.int) ∧ Q (.bl (HT.lexLt ns ms)) H
theorem op_ltT (hu : X.A.units < cLine) : OpR X (compareOp .Lt) (rLtT X.K) := by
  intro pins s σ H x y v u Q I rx ry h
  obtain ⟨a, b, ns, ms, rfl, rfl, ha, hb, q⟩ := h
  cases rx
  cases ry
  obtain ⟨its, r1, p1, _⟩ := I.tuple ha
  obtain ⟨its2, r2, p2, _⟩ := I.tuple hb
  have i1 : IntsAre its.toArray.toList ns := intsAre_of r1
  have i2 : IntsAre its2.toArray.toList ms := intsAre_of r2
  exact HT.lt_tupInts p1 p2 i1 i2 hu ⟨.bl (HT.lexLt ns ms), H, I, rfl, q⟩
/-- t + u, t not empty: u empty gives t itself -/
def rCatT (K : PySem.W.Frag) : R2 := fun x y H Q => ∃ a b xs ys, x = .ref a ∧ y = .ref b ∧ SqT K H a xs ∧ SqT K H b ys ∧ xs ≠ [] ∧ xs.length + ys.length ≤ sizeLine ∧
  (ys = [] → Q (.ref a) H) ∧ (ys ≠ [] → ∀ p, H p = none → Q (.ref p) (upd H p (.tup (xs ++ ys))))
theorem Vals.nil_iff {xs : List V} {us : List Value} (r : Vals xs us) : us = [] ↔ xs = [] := by
  cases r with
  | nil => simp
  | cons _ _ => simp
theorem op_catT : OpR X (binaryOp .Add) (rCatT X.K) := by
  intro pins s σ H x y v u Q I rx ry h
  obtain ⟨a, b, xs, ys, rfl, rfl, ha, hb, hx, hz, q1, q2⟩ := h
  cases rx
  cases ry
  obtain ⟨its, r1, p1, _⟩ := I.tuple ha
  obtain ⟨its2, r2, p2, _⟩ := I.tuple hb
  refine HT.cat_tup p1 p2 (fun z => hx (r1.nil_iff.mp z)) (fun z => ⟨.ref a, H, I, rfl, q1 (r2.nil_iff.mp z)⟩) (fun z => ?_) (by rw [← r1.length, ← r2.length]; exact hz)
  refine ⟨.ref s.heap.objs.size, _, I.laid (t' := s.toks) (o := .tup (xs ++ ys)) (fun b ob q => Heap.get?_push_of_some _ q) (Nat.le_refl _) ?_, rfl, q2 (fun w => z (r2.nil_iff.mpr w)) _ (I.hok.fresh (Nat.le_refl _))⟩
  exact ⟨⟨by rw [List.length_append]; exact hz, _, Heap.get?_push_size _ rfl, rfl⟩, _, r1.append r2, IsTup.new _ _⟩
/-- tuple(t) -/
theorem call_tupleT : CallR X (.type "tuple") (fun xs H Q => ∃ a ys, xs = [.ref a] ∧ SqT X.K H a ys ∧ Q (.ref a) H) := by
  intro pins s σ H xs us Q I r h
  obtain ⟨a, ys, rfl, ha, q⟩ := h
  obtain ⟨u, rfl, ru⟩ := vals1 r
  cases ru
  obtain ⟨its, _, p1, _⟩ := I.tuple ha
  exact call_tuple_same (items := its.toArray) p1 ⟨.ref a, H, I, rfl, q⟩
end
end L2

namespace L2
open PySem PySem.Spec PyProof.Rows

/-! ### places -/
/-- the place that an index of any sign means -/
def ixN (n : Nat) (i : Int) : Option Nat := if 0 ≤ i then (if i < n then some i.toNat else none) else if -(n : Int) ≤ i then some (i + n).toNat else none
def atI {α : Type} (xs : List α) (i : Int) : Option α := (ixN xs.length i).bind fun j => xs[j]?
theorem ixN_seq {n : Nat} {i : Int} {j : Nat} (h : ixN n i = some j) : seqIndex? i n = some j ∧ j < n ∧ -(n : Int) ≤ i ∧ i < n := by
  unfold ixN at h
  by_cases h0 : 0 ≤ i
  · rw [if_pos h0] at h
    by_cases h1 : i < n
    · rw [if_pos h1] at h
      have e : i.toNat = j := Option.some.inj h
      exact ⟨by rw [seqIndex_of h0 h1, e], by omega, by omega, h1⟩
    · rw [if_neg h1] at h; cases h
  · rw [if_neg h0] at h
    by_cases h1 : -(n : Int) ≤ i
    · rw [if_pos h1] at h
      have e : (i + n).toNat = j := Option.some.inj h
      exact ⟨by rw [seqIndex_neg (by omega) h1, e], by omega, h1, by omega⟩
    · rw [if_neg h1] at h; cases h
theorem atI_get {α : Type} {xs : List α} {i : Int} {v : α} (h : atI xs i = some v) : ∃ j, seqIndex? i xs.length = some j ∧ xs[j]? = some v ∧ j < xs.length ∧ -(xs.length : Int) ≤ i ∧ i < xs.length := by
  unfold atI at h
  cases e : ixN xs.length i with
  | none => rw [e] at h; cases h
  | some j =>
    rw [e] at h
    obtain ⟨h1, h2, h3, h4⟩ := ixN_seq e
    exact ⟨j, h1, h, h2, h3, h4⟩
theorem atI_nat {α : Type} {xs : List α} {j : Nat} {v : α} (h : xs[j]? = some v) : atI xs (j : Int) = some v := by
  have hj : j < xs.length := (List.getElem?_eq_some_iff.mp h).1
  have e : ixN xs.length (j : Int) = some j := by
    unfold ixN
    rw [if_pos (by omega), if_pos (by omega)]; simp
  unfold atI; rw [e]; exact h
theorem atI_last {α : Type} (xs : List α) (v : α) : atI (xs ++ [v]) (-1) = some v := by
  have hl : (xs ++ [v]).length = xs.length + 1 := by simp
  have e : ixN (xs ++ [v]).length (-1) = some xs.length := by
    unfold ixN
    rw [hl, if_neg (by decide), if_pos (by omega)]
    congr 1
    omega
  unfold atI
  rw [e]
  show (xs ++ [v])[xs.length]? = some v
  simp

/-! ### what may be subscripted -/
/-- what stands as an index of a plain subscript -/
def PlainIx (b : Expr) : Prop := ∀ o i, subscripted b false o i = operate [o, i] (getItem o i)
/-- a subscript by values -/
def IxR (X : Cx) (r : R2) : Prop :=
  ∀ (value slice : Expr) (pins : List (Addr × Obj)) (s : Shared) (σ : St) (H : Hp) (x y : V) (v u : Value) (Q : VK), Inv X pins σ H s → RelV x v → RelV y u → r x y H Q →
    subscripted slice false v u = operate [v, u] (getItem v u) → wpAny (model X.prog X.w) X.A (subscriptTail value slice v u) (EP X pins σ Q) X.xe s
/-- a call of a builtin's method by values: the receiver, the arguments -/
def MtR (X : Cx) (id : String) (r : V → List V → Hp → VK → Prop) : Prop :=
  ∀ (pins : List (Addr × Obj)) (s : Shared) (σ : St) (H : Hp) (x : V) (xs : List V) (v : Value) (us : List Value) (Q : VK), Inv X pins σ H s → RelV x v → Vals xs us → r x xs H Q →
    wpAny (model X.prog X.w) X.A (call (.builtin id) (v :: us)) (EP X pins σ Q) X.xe s
section
variable {X : Cx} {a b : Expr} {ta tb : TE} {pos : Pos}
theorem IxR.or {r r' : R2} (h : IxR X r) (h' : IxR X r') : IxR X (fun x y H Q => r x y H Q ∨ r' x y H Q) := by
  intro value slice pins s σ H x y v u Q I rx ry q hs
  rcases q with q | q
  · exact h value slice pins s σ H x y v u Q I rx ry q hs
  · exact h' value slice pins s σ H x y v u Q I rx ry q hs
theorem MtR.or {id : String} {r r' : V → List V → Hp → VK → Prop} (h : MtR X id r) (h' : MtR X id r') : MtR X id (fun x xs H Q => r x xs H Q ∨ r' x xs H Q) := by
  intro pins s σ H x xs v us Q I rx rs q
  rcases q with q | q
  · exact h pins s σ H x xs v us Q I rx rs q
  · exact h' pins s σ H x xs v us Q I rx rs q
/-- a[b] -/
theorem pe_ix {r : R2} (hr : IxR X r) (ha : PE X a ta) (hb : PE X b tb) (hs : PlainIx b) : PE X (.Subscript a b pos) (tOp r ta tb) := by
  intro pins s σ H Q I h
  exact Subscript_ (binT ha hb I h fun v u s2 x y H2 I2 rx ry q => hr a b pins s2 σ H2 x y v u Q I2 rx ry q (hs _ _))

def rIxL (K : PySem.W.Frag) : R2 := fun x y H Q => ∃ p xs i v, x = .ref p ∧ y = .int i ∧ SqL K H p xs ∧ atI xs i = some v ∧ Q v H
def rIxT (K : PySem.W.Frag) : R2 := fun x y H Q => ∃ p xs i v, x = .ref p ∧ y = .int i ∧ SqT K H p xs ∧ atI xs i = some v ∧ Q v H
def rIxS : R2 := fun x y H Q => ∃ z i c, x = .str z ∧ y = .int i ∧ z.length ≤ sizeLine ∧ atI z.cps.toList i = some c ∧ Q (.str ⟨#[c]⟩) H
theorem ix_list : IxR X (rIxL X.K) := by
  intro value slice pins s σ H x y v u Q I rx ry h hs
  obtain ⟨p, xs, i, z, rfl, rfl, hq, he, q⟩ := h
  cases rx
  obtain ⟨t, rfl⟩ := ry
  obtain ⟨its, r, pl, hz⟩ := I.list hq
  obtain ⟨j, h1, h2, h3, h4, h5⟩ := atI_get he
  obtain ⟨w, ew, rw'⟩ := r.get h2
  have hl := r.length
  have hn := line63
  have fin : EP X pins σ Q w s := ⟨z, H, I, rw', q⟩
  by_cases h0 : 0 ≤ i
  · have hj : i.toNat = j := by
      rw [seqIndex_of h0 h5] at h1
      exact Option.some.inj h1
    exact item_listR pl.isList h0 (by omega) (by rw [hj]; simpa using ew) fin hs
  · have hj : (i + (its.toArray.size : Int)).toNat = j := by
      rw [seqIndex_neg (by omega) h4] at h1
      rw [List.size_toArray, ← hl]
      exact Option.some.inj h1
    exact subscriptTail_builtinR (x := w) pl.isList.typeIs slot_list_getitem.lookup
      (wpAny_getItem_list_neg (Q := fun r s' => r = w ∧ EP X pins σ Q r s') pl.isList (by omega) (by rw [List.size_toArray] <;> omega) (by omega) (by rw [hj]; simpa using ew) ⟨rfl, fin⟩) hs
theorem ix_tup : IxR X (rIxT X.K) := by
  intro value slice pins s σ H x y v u Q I rx ry h hs
  obtain ⟨p, xs, i, z, rfl, rfl, hq, he, q⟩ := h
  cases rx
  obtain ⟨t, rfl⟩ := ry
  obtain ⟨its, r, pl, hz⟩ := I.tuple hq
  obtain ⟨j, h1, h2, h3, h4, h5⟩ := atI_get he
  obtain ⟨w, ew, rw'⟩ := r.get h2
  have hl := r.length
  have hn := line63
  have fin : EP X pins σ Q w s := ⟨z, H, I, rw', q⟩
  exact subscriptTail_builtinR (x := w) pl.typeIs slot_tuple_getitem.lookup
    (getItem_tuple (j := j) (Q := fun r s' => r = w ∧ EP X pins σ Q r s') pl (by omega) (by omega) (by rw [List.size_toArray, ← hl]; exact h1) (by simpa using ew) ⟨rfl, fin⟩) hs
theorem ix_str : IxR X rIxS := by
  intro value slice pins s σ H x y v u Q I rx ry h hs
  obtain ⟨z, i, c, rfl, rfl, hz, he, q⟩ := h
  obtain ⟨t, rfl⟩ := rx
  obtain ⟨t', rfl⟩ := ry
  obtain ⟨j, h1, h2, h3, h4, h5⟩ := atI_get he
  have hl : z.cps.toList.length = z.length := by simp [Str.length]
  rw [hl] at h1 h4 h5
  have hn := line63
  exact tail_any (typeIs_str s z t) slot_str_getitem.lookup (getItem_str (c := c) (by
    have e1 : decide (i < -(2 ^ 63 : Int)) = false := decide_eq_false (by omega)
    have e2 : decide (i ≥ 2 ^ 63) = false := decide_eq_false (by omega)
    rw [e1, e2, Bool.or_false]) (by rw [h1]; simpa using h2) ⟨.str ⟨#[c]⟩, H, I.tok _, ⟨_, rfl⟩, q⟩) hs
/-- list, tuple or str -/
def rIx (K : PySem.W.Frag) : R2 := fun x y H Q => rIxL K x y H Q ∨ rIxT K x y H Q ∨ rIxS x y H Q
theorem ix_seq : IxR X (rIx X.K) := ix_list.or (ix_tup.or ix_str)

/-! ### xs[i] = v, any sign -/
/-- the list's object behind a store -/
theorem mapSeq_set (its : List Value) (n j : Nat) (u : Value) : Obj.mapSeq (·.setIfInBounds j u) { cls := .type "list", data := .seq its.toArray n } = { cls := .type "list", data := .seq (its.set j u).toArray n } := by
  simp [Obj.mapSeq]
theorem Inv.lst {pins : List (Addr × Obj)} {σ : St} {H : Hp} {s : Shared} {p : Addr} {xs : List V} (I : Inv X pins σ H s) (h : H p = some (.lst xs)) :
    ∃ (its : List Value) (n : Nat), Vals xs its ∧ s.heap.get? p = some { cls := .type "list", data := .seq its.toArray n } ∧ xs.length ≤ sizeLine := by
  obtain ⟨z, its, n, r, e⟩ := I.hok p _ h
  exact ⟨its, n, r, e, z⟩
/-- the list at p is written by an update of its object -/
theorem Inv.lstUpd {pins : List (Addr × Obj)} {σ : St} {H : Hp} {s : Shared} {p : Addr} {xs ys : List V} {its its' : List Value} {n n' : Nat} {f : Obj → Obj} (I : Inv X pins σ H s) (h : H p = some (.lst xs))
    (ho : s.heap.get? p = some { cls := .type "list", data := .seq its.toArray n }) (hf : f { cls := .type "list", data := .seq its.toArray n } = { cls := .type "list", data := .seq its'.toArray n' }) (r : Vals ys its') (hz : ys.length ≤ sizeLine) (t : Nat) :
    Inv X pins σ (upd H p (.lst ys)) { s with heap := s.heap.update p f, toks := t } := by
  have e : (s.heap.update p f).get? p = some { cls := .type "list", data := .seq its'.toArray n' } := by
    rw [Heap.get?_update_self f ho (by rw [hf] <;> rfl), hf]
  refine I.write (x := p) (e := p) (by rw [h]; trivial) (.inl rfl) (fun b u hb q => (Heap.get?_update_other _ _ (Ne.symm hb)).trans q) ⟨_, e⟩ ?_
  exact ⟨hz, its', n', r, e⟩
def rSetL : V → V → V → Hp → (Hp → Prop) → Prop := fun o i v H Q => ∃ p xs k j, o = .ref p ∧ i = .int k ∧ H p = some (.lst xs) ∧ ixN xs.length k = some j ∧ Q (upd H p (.lst (xs.set j v)))
theorem set_list : PSet X rSetL := by
  intro pins s σ H o i v ov iv u Q I ro ri rv h
  obtain ⟨p, xs, k, j, rfl, rfl, hp, hj, q⟩ := h
  cases ro
  obtain ⟨t, rfl⟩ := ri
  obtain ⟨its, n, r, ho, hz⟩ := I.lst hp
  obtain ⟨h1, h2, h3, h4⟩ := ixN_seq hj
  have hl := r.length
  have hn := line63
  have I' : Inv X pins σ (upd H p (.lst (xs.set j v))) { s with heap := s.heap.update p (Obj.mapSeq (·.setIfInBounds j u)) } :=
    I.lstUpd hp ho (mapSeq_set its n j u) (r.set rv j) (by rw [List.length_set]; exact hz) s.toks
  by_cases h0 : 0 ≤ k
  · have hk : k.toNat = j := by
      rw [seqIndex_of h0 h4] at h1
      exact Option.some.inj h1
    exact PySem.W.ki_setAt ho h0 (by omega) (by rw [List.size_toArray, ← hl]; exact h4) (by rw [hk]; exact ⟨_, I', q⟩)
  · have hk : (k + (its.toArray.size : Int)).toNat = j := by
      rw [seqIndex_neg (by omega) h3] at h1
      rw [List.size_toArray, ← hl]
      exact Option.some.inj h1
    exact PySem.W.ki_setBack ho (by omega) (by rw [List.size_toArray, ← hl]; exact h3) (by omega) (by rw [hk]; exact ⟨_, I', q⟩)

/-! ### slices -/
theorem slice_bounds (lo hi : Option Int) (n : Nat) : (sliceBounds lo hi none n).1 = ((HT.sIx n 0 lo : Nat) : Int) ∧ (sliceBounds lo hi none n).2.1 = ((HT.sIx n n hi : Nat) : Int) ∧ (sliceBounds lo hi none n).2.2 = 1 := by
  refine ⟨?_, ?_, rfl⟩
  · cases lo with
    | none => simp [sliceBounds, HT.sIx]
    | some i =>
      simp only [sliceBounds, HT.sIx, Option.getD_none, show (1 : Int) > 0 by decide, if_true]
      by_cases h : i < 0
      · simp only [h, if_true] <;> omega
      · simp only [h, if_false] <;> omega
  · cases hi with
    | none => simp [sliceBounds, HT.sIx]
    | some i =>
      simp only [sliceBounds, HT.sIx, Option.getD_none, show (1 : Int) > 0 by decide, if_true]
      by_cases h : i < 0
      · simp only [h, if_true] <;> omega
      · simp only [h, if_false] <;> omega
theorem slicePick_cut (its : List Value) (lo hi : Option Int) : slicePick its.toArray lo hi none = ((its.drop (HT.sIx its.length 0 lo)).take (HT.sIx its.length its.length hi - HT.sIx its.length 0 lo)).toArray := by
  obtain ⟨h1, h2, h3⟩ := slice_bounds lo hi its.toArray.size
  unfold slicePick
  rw [h1, h2, h3]
  simp only [sliceRange_one, pick_run, List.size_toArray] <;> rfl
/-- xs[lo:hi] of a list: a new list -/
def rSlL (K : PySem.W.Frag) : V → Option Int → Option Int → Hp → VK → Prop := fun x lo hi H Q => ∃ a xs, x = .ref a ∧ SqL K H a xs ∧ ∀ p, H p = none → Q (.ref p) (upd H p (.lst (cutV xs lo hi)))
theorem sl_list : SlR X (rSlL X.K) := by
  intro pins s σ H x v vl vu lo hi sl Q I rx hs pl pu h
  obtain ⟨a, xs, rfl, hx, q⟩ := h
  cases rx
  obtain ⟨its, r, ht, hz⟩ := I.list hx
  have hlen := r.length
  refine ⟨"list", _, slot_list_getitem.lookup, ht.isList.typeIs, ?_⟩
  refine wpAny_getItem_list_slice ht.isList hs pl pu .none (by simp) ?_ (by rw [List.size_toArray] <;> omega)
  rw [slicePick_cut, ← hlen]
  refine ⟨.ref s.heap.objs.size, _, I.laid (t' := s.toks) (o := .lst (cutV xs lo hi)) (fun b ob q => Heap.get?_push_of_some _ q) (Nat.le_refl _) ?_, rfl, q _ (I.hok.fresh (Nat.le_refl _))⟩
  exact ⟨Nat.le_trans (cutV_length xs lo hi) hz, _, 0, (r.drop (HT.sIx xs.length 0 lo)).take (HT.sIx xs.length xs.length hi - HT.sIx xs.length 0 lo), Heap.get?_push_size _ rfl⟩

/-! ### in, not in: flat items -/
def flatV : V → Bool
  | .non => true
  | .bl _ => true
  | .int _ => true
  | .str _ => true
  | _ => false
/-- == of flat values -/
def eqV : V → V → Bool
  | .non, .non => true
  | .bl a, .bl b => a == b
  | .bl a, .int b => (if a then 1 else 0) == b
  | .int a, .bl b => a == (if b then 1 else 0)
  | .int a, .int b => a == b
  | .str a, .str b => a == b
  | _, _ => false
theorem eqAt_V {A : Around} {s : Shared} {y x : V} {u v : Value} (ry : RelV y u) (rx : RelV x v) (fy : flatV y = true) (fx : flatV x = true) : SeqAt.EqAt A s u v (eqV y x) := by
  cases y with
  | non =>
    cases ry
    cases x with
    | non => cases rx; exact SeqAt.EqAt.same _
    | bl b => cases rx; exact SeqAt.EqAt.none_bool b
    | int b => obtain ⟨t, rfl⟩ := rx; exact SeqAt.EqAt.none_int b t
    | str b => obtain ⟨t, rfl⟩ := rx; exact SeqAt.EqAt.none_str b t
    | _ => exact absurd (show false = true from fx) Bool.false_ne_true
  | bl a =>
    cases ry
    cases x with
    | non => cases rx; exact SeqAt.EqAt.bool_none a
    | bl b => cases rx; exact SeqAt.EqAt.bool_bool a b
    | int b => obtain ⟨t, rfl⟩ := rx; exact SeqAt.EqAt.bool_int a b t
    | str b => obtain ⟨t, rfl⟩ := rx; exact SeqAt.EqAt.bool_str a b t
    | _ => exact absurd (show false = true from fx) Bool.false_ne_true
  | int a =>
    obtain ⟨t', rfl⟩ := ry
    cases x with
    | non => cases rx; exact SeqAt.EqAt.int_none a t'
    | bl b => cases rx; exact SeqAt.EqAt.int_bool a t' b
    | int b => obtain ⟨t, rfl⟩ := rx; exact SeqAt.EqAt.int_int a t' b t
    | str b => obtain ⟨t, rfl⟩ := rx; exact SeqAt.EqAt.int_str a t' b t
    | _ => exact absurd (show false = true from fx) Bool.false_ne_true
  | str a =>
    obtain ⟨t', rfl⟩ := ry
    cases x with
    | non => cases rx; exact SeqAt.EqAt.str_none a t'
    | bl b => cases rx; exact SeqAt.EqAt.str_bool a t' b
    | int b => obtain ⟨t, rfl⟩ := rx; exact SeqAt.EqAt.str_int a t' b t
    | str b => obtain ⟨t, rfl⟩ := rx; exact SeqAt.EqAt.str_str a t' b t
    | _ => exact absurd (show false = true from fx) Bool.false_ne_true
  | _ => exact absurd (show false = true from fy) Bool.false_ne_true
/-- the items' answers, read off the values (a value's own answer does not lean on its token) -/
def eqU (x : V) (u : Value) : Bool := match u with
  | .none => eqV .non x
  | .bool b => eqV (.bl b) x
  | .int i _ => eqV (.int i) x
  | .str z _ => eqV (.str z) x
  | _ => false
theorem eqU_of {x y : V} {u : Value} (r : RelV y u) (f : flatV y = true) : eqU x u = eqV y x := by
  cases y with
  | non => cases r; rfl
  | bl b => cases r; rfl
  | int i => obtain ⟨t, rfl⟩ := r; rfl
  | str z => obtain ⟨t, rfl⟩ := r; rfl
  | _ => exact absurd (show false = true from f) Bool.false_ne_true
theorem any_eqU {x : V} : ∀ {xs : List V} {us : List Value}, Vals xs us → xs.all flatV = true → us.any (eqU x) = xs.any fun y => eqV y x
  | _, _, .nil, _ => rfl
  | y :: xs, u :: us, .cons r t, f => by
    rw [List.all_cons, Bool.and_eq_true] at f
    rw [List.any_cons, List.any_cons, eqU_of r f.1, any_eqU t f.2]
theorem mem_eqAt {A : Around} {s : Shared} {x : V} {v : Value} (rx : RelV x v) (fx : flatV x = true) : ∀ {xs : List V} {us : List Value}, Vals xs us → xs.all flatV = true → ∀ u ∈ us, SeqAt.EqAt A s u v (eqU x u)
  | _, _, .nil, _ => fun u hu => by cases hu
  | y :: xs, u :: us, .cons r t, f => fun u' hu => by
    rw [List.all_cons, Bool.and_eq_true] at f
    rcases List.mem_cons.mp hu with rfl | hu
    · rw [eqU_of r f.1]; exact eqAt_V r rx f.1 fx
    · exact mem_eqAt rx fx t f.2 u' hu
def inV (x : V) (xs : List V) : Bool := xs.any fun y => eqV y x
/-- x in a list or tuple of flat items -/
def rIn (K : PySem.W.Frag) (neg : Bool) : R2 := fun x y H Q => ∃ p xs, y = .ref p ∧ (SqL K H p xs ∨ SqT K H p xs) ∧ flatV x = true ∧ xs.all flatV = true ∧ Q (.bl (if neg then !inV x xs else inV x xs)) H
theorem op_in_seq : OpR X (compareOp .In) (rIn X.K false) := by
  intro pins s σ H x y v u Q I rx ry h
  obtain ⟨p, xs, rfl, hq, fx, fs, q⟩ := h
  cases ry
  rcases hq with hq | hq
  · obtain ⟨its, r, pl, hz⟩ := I.list hq
    refine SeqAt.in_listAt (eqU x) pl.isList (fun w hw => mem_eqAt rx fx r fs w (by simpa using hw)) ⟨.bl _, H, I, rfl, ?_⟩
    rw [show its.toArray.any (eqU x) = its.any (eqU x) by simp, any_eqU r fs]
    exact q
  · obtain ⟨its, r, pl, hz⟩ := I.tuple hq
    refine SeqAt.in_tupleAt (eqU x) pl (fun w hw => mem_eqAt rx fx r fs w (by simpa using hw)) ⟨.bl _, H, I, rfl, ?_⟩
    rw [show its.toArray.any (eqU x) = its.any (eqU x) by simp, any_eqU r fs]
    exact q
theorem op_notIn_seq : OpR X (compareOp .NotIn) (rIn X.K true) := by
  intro pins s σ H x y v u Q I rx ry h
  obtain ⟨p, xs, rfl, hq, fx, fs, q⟩ := h
  cases ry
  rcases hq with hq | hq
  · obtain ⟨its, r, pl, hz⟩ := I.list hq
    refine SeqAt.notIn_listAt (eqU x) pl.isList (fun w hw => mem_eqAt rx fx r fs w (by simpa using hw)) ⟨.bl _, H, I, rfl, ?_⟩
    rw [show its.toArray.any (eqU x) = its.any (eqU x) by simp, any_eqU r fs]
    exact q
  · obtain ⟨its, r, pl, hz⟩ := I.tuple hq
    refine SeqAt.notIn_tupleAt (eqU x) pl (fun w hw => mem_eqAt rx fx r fs w (by simpa using hw)) ⟨.bl _, H, I, rfl, ?_⟩
    rw [show its.toArray.any (eqU x) = its.any (eqU x) by simp, any_eqU r fs]
    exact q
theorem op_notIn_str : OpR X (compareOp .NotIn) (fun x y H Q => ∃ i j, x = .str i ∧ y = .str j ∧ Q (.bl (!(!(Builtin.Str.occurrences j i 0 j.length 1).isEmpty))) H) := by
  intro pins s σ H x y v u Q I rx ry h
  obtain ⟨i, j, rfl, rfl, q⟩ := h
  obtain ⟨t, rfl⟩ := rx
  obtain ⟨t', rfl⟩ := ry
  exact notIn_str ⟨.bl _, H, I, rfl, q⟩

/-! ### len, list(x), tuple(x) of any list or tuple that is read -/
theorem call_len_seq : CallR X (.builtin "len") (fun xs H Q => ∃ p ys, xs = [.ref p] ∧ (SqL X.K H p ys ∨ SqT X.K H p ys) ∧ Q (.int ys.length) H) := by
  intro pins s σ H xs us Q I r h
  obtain ⟨p, ys, rfl, hq, q⟩ := h
  obtain ⟨u, rfl, rx⟩ := vals1 r
  cases rx
  have hn := line63
  rcases hq with hq | hq
  · obtain ⟨its, r', pl, hz⟩ := I.list hq
    have hlen := r'.length
    exact Calls.call_len_list pl.isList (by simp only [List.size_toArray] <;> omega) ⟨.int ys.length, H, I.tok _, ⟨s.toks + 1, by rw [List.size_toArray, hlen]⟩, q⟩
  · obtain ⟨its, r', pl, hz⟩ := I.tuple hq
    have hlen := r'.length
    exact len_tuple pl (by simp only [List.size_toArray] <;> omega) ⟨.int ys.length, H, I.tok _, ⟨s.toks + 1, by rw [List.size_toArray, hlen]⟩, q⟩
theorem call_len_str : CallR X (.builtin "len") (fun xs H Q => ∃ z, xs = [.str z] ∧ z.length ≤ sizeLine ∧ Q (.int z.length) H) := by
  intro pins s σ H xs us Q I r h
  obtain ⟨z, rfl, hz, q⟩ := h
  obtain ⟨u, rfl, t, rfl⟩ := vals1 r
  have hn := line63
  exact len_str (by omega) ⟨.int z.length, H, I.tok _, ⟨_, rfl⟩, q⟩
theorem CallR.or {f : Value} {r r' : List V → Hp → VK → Prop} (h : CallR X f r) (h' : CallR X f r') : CallR X f (fun xs H Q => r xs H Q ∨ r' xs H Q) := by
  intro pins s σ H xs us Q I rs q
  rcases q with q | q
  · exact h pins s σ H xs us Q I rs q
  · exact h' pins s σ H xs us Q I rs q
theorem call_list_of : CallR X (.type "list") (fun xs H Q => ∃ p ys, xs = [.ref p] ∧ (SqL X.K H p ys ∨ SqT X.K H p ys) ∧ ∀ l, H l = none → Q (.ref l) (upd H l (.lst ys))) := by
  intro pins s σ H xs us Q I r h
  obtain ⟨p, ys, rfl, hq, q⟩ := h
  obtain ⟨u, rfl, rx⟩ := vals1 r
  cases rx
  have fin : ∀ (its : List Value), Vals ys its → ys.length ≤ sizeLine → ∀ (h' : Heap) (c' : Nat), (∀ b o', s.heap.get? b = some o' → h'.get? b = some o') →
      h'.get? s.heap.objs.size = some { cls := .type "list", dict := none, data := .seq its.toArray c', slots := #[] } → EP X pins σ Q (.ref s.heap.objs.size) { s with heap := h' } := fun its r' hz h' c' kp e =>
    ⟨.ref s.heap.objs.size, _, I.laid (t' := s.toks) kp (Nat.le_refl _) (show ObjOk X.prog X.w _ h' _ (.lst ys) from ⟨hz, its, c', r', e⟩), rfl, q _ (I.hok.fresh (Nat.le_refl _))⟩
  rcases hq with hq | hq
  · obtain ⟨its, r', pl, hz⟩ := I.list hq
    have hlen := r'.length
    obtain ⟨o, ho, hc, n, hd⟩ := pl.isList
    exact call_list_seq p (.inl rfl) ho hc hd (fun h' c' kp e => fin its r' hz h' c' kp e) (by simp only [List.size_toArray] <;> omega)
  · obtain ⟨its, r', pl, hz⟩ := I.tuple hq
    have hlen := r'.length
    obtain ⟨o, ho, hc, n, hd⟩ := pl
    exact call_list_seq p (.inr rfl) ho hc hd (fun h' c' kp e => fin its r' hz h' c' kp e) (by simp only [List.size_toArray] <;> omega)
theorem call_tuple_of : CallR X (.type "tuple") (fun xs H Q => ∃ p ys, xs = [.ref p] ∧ ((SqL X.K H p ys ∧ ∀ l, H l = none → Q (.ref l) (upd H l (.tup ys))) ∨ (SqT X.K H p ys ∧ Q (.ref p) H))) := by
  intro pins s σ H xs us Q I r h
  obtain ⟨p, ys, rfl, h⟩ := h
  obtain ⟨u, rfl, rx⟩ := vals1 r
  cases rx
  rcases h with ⟨hq, q⟩ | ⟨hq, q⟩
  · obtain ⟨its, r', pl, hz⟩ := I.list hq
    have hlen := r'.length
    refine call_tuple_list pl.isList (fun h' kp => ?_) (by simp only [List.size_toArray] <;> omega)
    have I1 : Inv X pins σ H { s with heap := h' } := I.kept (t' := s.toks) kp
    have I2 : Inv X pins σ (upd H h'.objs.size (.tup ys)) { s with heap := h'.push { cls := .type "tuple", data := .seq its.toArray } } :=
      I1.laid (t' := s.toks) (fun b o e => Heap.get?_push_of_some _ e) (Nat.le_refl _) (show ObjOk X.prog X.w _ _ _ (.tup ys) from ⟨⟨hz, _, Heap.get?_push_size _ rfl, rfl⟩, its, r', IsTup.new _ _⟩)
    exact ⟨.ref h'.objs.size, _, I2, rfl, q _ (I1.hok.fresh (Nat.le_refl _))⟩
  · obtain ⟨its, r', pl, hz⟩ := I.tuple hq
    exact call_tuple_same pl ⟨.ref p, H, I, rfl, q⟩

/-! ### the call of a builtin's method: o.m(..) -/
/-- the value is of that builtin type -/
def tyV (K : PySem.W.Frag) (T : String) (x : V) (H : Hp) : Prop := match x with
  | .str _ => T = "str"
  | .int _ => T = "int"
  | .ref p => (T = "list" ∧ ∃ xs, SqL K H p xs) ∨ (T = "tuple" ∧ ∃ o, K.lookup p = some o ∧ o.cls = .type "tuple" ∧ o.dict = none) ∨
      (T = "dict" ∧ ((∃ kvs, H p = some (.dK kvs)) ∨ ∃ kvs, H p = some (.dT kvs))) ∨ (T = "set" ∧ ∃ S n, H p = some (.set S n))
  | _ => False
theorem tyV_is {pins : List (Addr × Obj)} {σ : St} {H : Hp} {s : Shared} {T : String} {x : V} {v : Value} (I : Inv X pins σ H s) (r : RelV x v) (ty : tyV X.K T x H) :
    s.TypeIs v T ∧ ∀ a, v = .ref a → ∃ ob, s.heap.get? a = some ob ∧ ob.dict = none := by
  cases x with
  | str z =>
    obtain ⟨t, rfl⟩ := r
    cases (show T = "str" from ty)
    exact ⟨typeIs_str s z t, fun _ e => nomatch e⟩
  | int i =>
    obtain ⟨t, rfl⟩ := r
    cases (show T = "int" from ty)
    exact ⟨typeIs_int s i t, fun _ e => nomatch e⟩
  | ref p =>
    cases r
    rcases ty with ⟨rfl, xs, hq⟩ | ⟨rfl, o, hk, hc, hd⟩ | ⟨rfl, hk⟩ | ⟨rfl, S, n, hk⟩
    · obtain ⟨its, _, pl, _⟩ := I.list hq
      refine ⟨pl.isList.typeIs, fun a e => ?_⟩
      cases e
      obtain ⟨o, n, e, c, hd, _⟩ := pl
      exact ⟨o, e, hd⟩
    · refine ⟨⟨o, I.kIn p o hk, hc⟩, fun a e => ?_⟩
      cases e
      exact ⟨o, I.kIn _ o hk, hd⟩
    · have z : ∃ o, s.heap.get? p = some o ∧ o.ExactDict := by
        rcases hk with ⟨kvs, hk⟩ | ⟨kvs, hk⟩
        · obtain ⟨_, _, _, _, o, _, _, e, ex, _⟩ := I.hok p _ hk
          exact ⟨o, e, ex⟩
        · obtain ⟨_, _, _, _, o, _, _, e, ex, _⟩ := I.hok p _ hk
          exact ⟨o, e, ex⟩
      obtain ⟨o, e, ex⟩ := z
      refine ⟨⟨o, e, ex.1⟩, fun a e2 => ?_⟩
      cases e2
      exact ⟨o, e, ex.2.1⟩
    · obtain ⟨o, _, _, _, e, ex, _⟩ := I.hok p _ hk
      refine ⟨⟨o, e, ex.1⟩, fun a e2 => ?_⟩
      cases e2
      exact ⟨o, e, ex.2.1⟩
  | _ => exact False.elim ty
def tBM0 (K : PySem.W.Frag) (T : String) (r : V → List V → Hp → VK → Prop) (to : TE) : TE := fun σ H Q => to σ H fun x H1 => tyV K T x H1 ∧ r x [] H1 Q
def tBM (K : PySem.W.Frag) (T : String) (r : V → List V → Hp → VK → Prop) (to : TE) (t : TA) : TE := fun σ H Q => to σ H fun x H1 => tyV K T x H1 ∧ t σ H1 fun xs H2 => r x xs H2 Q
variable {o e : Expr} {es : List Expr} {to : TE} {t : TA} {name : Str} {apos cpos : Pos} {T id : String} {r : V → List V → Hp → VK → Prop}
theorem pe_bm0 (pa : PlainAttrs T) (slot : Slot T name id) (hty : typeOf (.builtin id) = pure (.type "method_descriptor")) (hm : MtR X id r) (ho : PE X o to)
    (hbase : attributeBase o name X.env (eval o X.env) = eval o X.env := by rfl) (hline : (apos.endLine == cpos.line) = true := by rfl) : PE X (.Call (.Attribute o name apos) [] [] cpos) (tBM0 X.K T r to) := by
  intro pins s σ H Q I h
  refine wpAny_Call_method0_late hbase hline (thn (ho pins s σ H _ I h) fun v s1 ⟨x, H1, I1, r1, ty, q1⟩ => ?_)
  obtain ⟨h1, h2⟩ := tyV_is I1 r1 ty
  exact ⟨T, id, pa, slot, hty, h1, h2, Calls.callWith_builtin rfl (PySem.evalArgs_none (hm pins s1 σ H1 x [] v [] Q I1 r1 .nil q1))⟩
theorem pe_bm (pa : PlainAttrs T) (slot : Slot T name id) (hty : typeOf (.builtin id) = pure (.type "method_descriptor")) (hm : MtR X id r) (ho : PE X o to) (ha : PA X (e :: es) t)
    (hbase : attributeBase o name X.env (eval o X.env) = eval o X.env := by rfl)
    (hfew : ((backTo cpos (starEach (e :: es) X.env)).all (fun x => !x.1) && (backToKw cpos (keywordEach [] X.env)).all (fun x => x.1.isSome)
      && decide ((e :: es).length + ([] : List Keyword).length + (if ([] : List Keyword).isEmpty then 0 else 1) < 30)) = true := by rfl)
    (hline : (apos.endLine == cpos.line) = true := by rfl) (hs : starEach (e :: es) X.env = (false, eval e X.env) :: starEach es X.env := by rfl) (hplain : (backTo cpos (starEach es X.env)).any (·.1) = false := by rfl) :
    PE X (.Call (.Attribute o name apos) (e :: es) [] cpos) (tBM X.K T r to t) := by
  intro pins s σ H Q I h
  refine wpAny_Call_method_late hbase hfew hline rfl (thn (ho pins s σ H _ I h) fun v s1 ⟨x, H1, I1, r1, ty, q1⟩ => ?_)
  obtain ⟨h1, h2⟩ := tyV_is I1 r1 ty
  refine ⟨T, id, pa, slot, hty, h1, h2, ?_⟩
  have hA := ha cpos pins s1 σ H1 _ I1 q1
  rw [hs] at hA ⊢
  refine Calls.callWith_builtin (by show (false || (backTo cpos (starEach es X.env)).any (·.1)) = false; rw [hplain] <;> rfl) (Calls.evalArgs_plain ?_)
  exact thn hA fun us s2 ⟨vs, H2, I2, r2, q2⟩ => hm pins s2 σ H2 x vs v us Q I2 r1 r2 q2
/- xs.append(e), list.index on a module's tuple .. are MtR facts of 06m -/
end
end L2

namespace L2
open PySem PySem.Spec PyProof.Rows

def MtM (X : Cx) (id : String) (r : V → List V → Hp → VK → Prop) : Prop :=
  ∀ (pins : List (Addr × Obj)) (s : Shared) (σ : St) (H : Hp) (x : V) (xs : List V) (v : Value) (us : List Value) (Q : VK), Inv X pins σ H s → RelV x v → Vals xs us → r x xs H Q →
    wpAny (model X.prog X.w) X.A (call (.builtin id) (v :: us)) (EP X pins σ Q) X.xe s

/-! ### lists of values -/
theorem Vals.one : ∀ {x : V} {us : List Value}, Vals [x] us → ∃ u, us = [u] ∧ RelV x u
  | _, _, .cons r .nil => ⟨_, rfl, r⟩
theorem Vals.two : ∀ {x y : V} {us : List Value}, Vals [x, y] us → ∃ u v, us = [u, v] ∧ RelV x u ∧ RelV y v
  | _, _, _, .cons r (.cons q .nil) => ⟨_, _, rfl, r, q⟩
theorem Vals.zero : ∀ {us : List Value}, Vals [] us → us = []
  | _, .nil => rfl
theorem Vals.dropLast {xs : List V} {us : List Value} (h : Vals xs us) : Vals xs.dropLast us.dropLast := by
  induction h with
  | nil => exact .nil
  | cons r t ih =>
    cases t with
    | nil => exact .nil
    | cons q t' => exact .cons r ih
theorem Vals.eraseIdx : ∀ {xs : List V} {us : List Value} (i : Nat), Vals xs us → Vals (xs.eraseIdx i) (us.eraseIdx i)
  | _, _, _, .nil => .nil
  | _, _, 0, .cons _ t => t
  | _, _, i + 1, .cons r t => .cons r (Vals.eraseIdx i t)
theorem Vals.reverse {xs : List V} {us : List Value} (h : Vals xs us) : Vals xs.reverse us.reverse := by
  induction h with
  | nil => exact .nil
  | cons r t ih => rw [List.reverse_cons, List.reverse_cons]; exact Vals.append ih (.cons r .nil)
theorem Vals.rep {xs : List V} {us : List Value} (h : Vals xs us) : ∀ k : Nat, Vals (List.replicate k xs).flatten (List.replicate k us).flatten
  | 0 => .nil
  | k + 1 => by
    rw [List.replicate_succ, List.replicate_succ, List.flatten_cons, List.flatten_cons]
    exact Vals.append h (Vals.rep h k)
theorem erase_last {α : Type} (l : List α) : l.eraseIdx (l.length - 1) = l.dropLast := by
  induction l with
  | nil => rfl
  | cons a r ih =>
    cases r with
    | nil => rfl
    | cons b r =>
      have e : (a :: b :: r).length - 1 = ((b :: r).length - 1) + 1 := by
        have h1 : (a :: b :: r).length = r.length + 2 := rfl
        have h2 : (b :: r).length = r.length + 1 := rfl
        omega
      rw [e, List.eraseIdx_cons_succ, ih]
      all_goals rfl
theorem len_erase {α : Type} : ∀ (l : List α) (i : Nat), (l.eraseIdx i).length ≤ l.length
  | [], _ => Nat.le_refl _
  | _ :: _, 0 => Nat.le_succ _
  | _ :: r, i + 1 => Nat.succ_le_succ (len_erase r i)
theorem foldl_rep (its : List Value) : ∀ (k : Nat) (acc : List Value),
    List.foldl (fun x1 x2 => x1 ++ x2) acc.toArray (List.replicate k its.toArray) = (acc ++ (List.replicate k its).flatten).toArray
  | 0, acc => by simp
  | k + 1, acc => by
    have e : acc.toArray ++ its.toArray = (acc ++ its).toArray := by simp
    have e2 : (acc ++ its) ++ (List.replicate k its).flatten = acc ++ (List.replicate (k + 1) its).flatten := by
      rw [List.replicate_succ, List.flatten_cons, List.append_assoc]
    rw [← e2, ← foldl_rep its k (acc ++ its), ← e, List.replicate_succ, List.foldl_cons]

section
variable {X : Cx} {pins : List (Addr × Obj)} {σ : St} {H : Hp} {s : Shared} {l b : Addr} {xs ys zs : List V}

/-! ### the two steps: a tracked list is rewritten, a new list is laid -/
theorem Inv.lset {its its' : List Value} {n : Nat} {f : Array Value → Array Value} {t' : Nat} (I : Inv X pins σ H s) (hH : H l = some (.lst xs))
    (e : s.heap.get? l = some { cls := .type "list", data := .seq its.toArray n }) (hf : f its.toArray = its'.toArray) (hv : Vals ys its') (hz : ys.length ≤ sizeLine) :
    Inv X pins σ (upd H l (.lst ys)) { s with heap := s.heap.update l (Obj.mapSeq f), toks := t' } := by
  have q := PySem.IsL.update e f
  rw [hf] at q
  refine I.write (x := l) (e := l) (by rw [hH]; exact trivial) (.inl rfl) (fun b' u hb hu => (Heap.get?_update_other s.heap (Obj.mapSeq f) (Ne.symm hb)).trans hu) ⟨_, q⟩ ?_
  exact ⟨hz, its', _, hv, q⟩
theorem Inv.lnew {its : List Value} {t' : Nat} (I : Inv X pins σ H s) (hv : Vals ys its) (hz : ys.length ≤ sizeLine) :
    Inv X pins σ (upd H s.heap.objs.size (.lst ys)) { s with heap := s.heap.push { cls := .type "list", data := .seq its.toArray }, toks := t' } :=
  I.laid (fun _ _ q => Heap.get?_push_of_some _ q) (Nat.le_refl _) ⟨hz, its, 0, hv, Heap.get?_push_size _ rfl⟩
theorem Inv.fresh (I : Inv X pins σ H s) : H s.heap.objs.size = none := I.hok.fresh (Nat.le_refl _)
theorem Inv.lstM (I : Inv X pins σ H s) (hH : H l = some (.lst xs)) : xs.length ≤ sizeLine ∧ ∃ (its : List Value) (n : Nat), Vals xs its ∧ xs.length = its.length ∧ s.heap.get? l = some { cls := .type "list", data := .seq its.toArray n } := by
  obtain ⟨z, its, n, r, e⟩ := I.hok l _ hH
  exact ⟨z, its, n, r, r.length, e⟩

theorem notLongL {n : Nat} (h : n ≤ sizeLine) : Builtin.List.listTooLong n = false := by
  unfold Builtin.List.listTooLong
  exact decide_eq_false (by omega)
end

section
variable {X : Cx}

/-! ### methods -/
def rAppend : V → List V → Hp → VK → Prop := fun x vs H Q => ∃ l xs y, x = .ref l ∧ vs = [y] ∧ H l = some (.lst xs) ∧ xs.length < sizeLine ∧ Q .non (upd H l (.lst (xs ++ [y])))
theorem mt_append : MtM X "list.append" rAppend := by
  intro pins s σ H x vs v us Q I rx rv h
  obtain ⟨l, xs, y, rfl, rfl, hH, hz, q⟩ := h
  cases rx
  obtain ⟨u, rfl, ru⟩ := rv.one
  obtain ⟨z, its, n, r, hl, e⟩ := I.lstM hH
  refine call_meets F.slot_list_append ⟨_, e, rfl⟩ F.entry_list_append (F.args_list_append_2 _ _) (PySem.list_append l its.toArray n u (by rw [List.size_toArray]; omega)) ⟨e, ?_⟩
  refine ⟨.non, _, I.lset (its' := its ++ [u]) hH e (by simp) (r.append (.cons ru .nil)) ?_, rfl, q⟩
  rw [List.length_append, List.length_singleton]
  omega

def rExtend : V → List V → Hp → VK → Prop := fun x vs H Q => ∃ l b xs zs, x = .ref l ∧ vs = [.ref b] ∧ H l = some (.lst xs) ∧ H b = some (.lst zs) ∧ xs.length + zs.length ≤ sizeLine ∧ Q .non (upd H l (.lst (xs ++ zs)))
theorem mt_extend : MtM X "list.extend" rExtend := by
  intro pins s σ H x vs v us Q I rx rv h
  obtain ⟨l, b, xs, zs, rfl, rfl, hH, hB, hz, q⟩ := h
  cases rx
  obtain ⟨u, rfl, ru⟩ := rv.one
  cases ru
  obtain ⟨z, its, n, r, hl, e⟩ := I.lstM hH
  obtain ⟨z2, its2, n2, r2, hl2, e2⟩ := I.lstM hB
  have hsz : its.toArray.size + its2.toArray.size ≤ sizeLine := by rw [List.size_toArray, List.size_toArray]; omega
  have hlong : ¬ (!its.toArray.isEmpty && Builtin.List.listTooLong (its.toArray.size + its2.toArray.size)) = true := by
    rw [notLongL hsz, Bool.and_false]
    exact Bool.false_ne_true
  refine call_meets F.slot_list_extend ⟨_, e, rfl⟩ F.entry_list_extend (F.args_list_extend_2 _ _)
    (AutoSeq1.list_extend_list_list_0 l its.toArray n b its2.toArray n2 hlong (by rw [List.size_toArray]; omega) (by omega)) ⟨e, e2, ?_⟩
  refine ⟨.non, _, I.lset (its' := its ++ its2) hH e (by simp) (r.append r2) ?_, rfl, q⟩
  rw [List.length_append]
  omega

def rPop : V → List V → Hp → VK → Prop := fun x vs H Q => ∃ l xs y, x = .ref l ∧ vs = [] ∧ H l = some (.lst xs) ∧ xs[xs.length - 1]? = some y ∧ Q y (upd H l (.lst xs.dropLast))
theorem mt_pop : MtM X "list.pop" rPop := by
  intro pins s σ H x vs v us Q I rx rv h
  obtain ⟨l, xs, y, rfl, rfl, hH, hy, q⟩ := h
  cases rx
  have hus := rv.zero
  subst hus
  obtain ⟨z, its, n, r, hl, e⟩ := I.lstM hH
  obtain ⟨u, hu, ru⟩ := r.get hy
  have hy' : its.toArray[its.toArray.size - 1]? = some u := by
    show its.toArray[its.length - 1]? = some u
    rw [← Array.getElem?_toList, ← hl]
    exact hu
  refine call_meets F.slot_list_pop ⟨_, e, rfl⟩ F.entry_list_pop (F.args_list_pop_1 _) (MeetsSeq.list_pop_last l its.toArray n u hy' (by rw [List.size_toArray]; omega)) ⟨e, ?_⟩
  refine ⟨y, _, I.lset (its' := its.dropLast) hH e ?_ r.dropLast ?_, ru, q⟩
  · show its.toArray.eraseIdxIfInBounds (its.toArray.size - 1) = its.dropLast.toArray
    rw [List.size_toArray, List.eraseIdxIfInBounds_toArray, erase_last]
  · rw [List.length_dropLast]
    omega

def rPopAt : V → List V → Hp → VK → Prop := fun x vs H Q => ∃ l xs i k y, x = .ref l ∧ vs = [.int i] ∧ H l = some (.lst xs) ∧ -(2 ^ 63) ≤ i ∧ i < 2 ^ 63 ∧ seqIndex? i xs.length = some k ∧ xs[k]? = some y ∧ Q y (upd H l (.lst (xs.eraseIdx k)))
theorem mt_popAt : MtM X "list.pop" rPopAt := by
  intro pins s σ H x vs v us Q I rx rv h
  obtain ⟨l, xs, i, k, y, rfl, rfl, hH, h1, h2, hk, hy, q⟩ := h
  cases rx
  obtain ⟨u, rfl, ru⟩ := rv.one
  obtain ⟨t, rfl⟩ := ru
  obtain ⟨z, its, n, r, hl, e⟩ := I.lstM hH
  obtain ⟨w, hw, rw'⟩ := r.get hy
  refine call_meets F.slot_list_pop ⟨_, e, rfl⟩ F.entry_list_pop (F.args_list_pop_2 _ _)
    (MeetsSeq.list_pop_at l its.toArray n i t k w (fitsIndex_both h1 h2) (by rw [List.size_toArray, ← hl]; exact hk) (by rw [← Array.getElem?_toList]; exact hw) (by rw [List.size_toArray]; omega)) ⟨e, ?_⟩
  refine ⟨y, _, I.lset (its' := its.eraseIdx k) hH e ?_ (r.eraseIdx k) ?_, rw', q⟩
  · show its.toArray.eraseIdxIfInBounds k = (its.eraseIdx k).toArray
    rw [List.eraseIdxIfInBounds_toArray]
  · have := len_erase xs k
    omega

def rReverse : V → List V → Hp → VK → Prop := fun x vs H Q => ∃ l xs, x = .ref l ∧ vs = [] ∧ H l = some (.lst xs) ∧ Q .non (upd H l (.lst xs.reverse))
theorem mt_reverse : MtM X "list.reverse" rReverse := by
  intro pins s σ H x vs v us Q I rx rv h
  obtain ⟨l, xs, rfl, rfl, hH, q⟩ := h
  cases rx
  have hus := rv.zero
  subst hus
  obtain ⟨z, its, n, r, hl, e⟩ := I.lstM hH
  refine call_meets F.slot_list_reverse ⟨_, e, rfl⟩ F.entry_list_reverse (F.args_list_reverse_1 _) (AutoSeq1.list_reverse_list_0 l its.toArray n (by rw [List.size_toArray]; omega)) ⟨e, ?_⟩
  refine ⟨.non, _, I.lset (its' := its.reverse) hH e (by simp) r.reverse ?_, rfl, q⟩
  rw [List.length_reverse]
  omega

def rClear : V → List V → Hp → VK → Prop := fun x vs H Q => ∃ l xs, x = .ref l ∧ vs = [] ∧ H l = some (.lst xs) ∧ Q .non (upd H l (.lst []))
theorem mt_clear : MtM X "list.clear" rClear := by
  intro pins s σ H x vs v us Q I rx rv h
  obtain ⟨l, xs, rfl, rfl, hH, q⟩ := h
  cases rx
  have hus := rv.zero
  subst hus
  obtain ⟨z, its, n, r, hl, e⟩ := I.lstM hH
  refine call_meets F.slot_list_clear ⟨_, e, rfl⟩ F.entry_list_clear (F.args_list_clear_1 _) (AutoSeq1.list_clear_list_0 l its.toArray n (by rw [List.size_toArray]; omega)) ⟨e, ?_⟩
  exact ⟨.non, _, I.lset (its' := []) (ys := []) hH e rfl .nil (Nat.zero_le _), rfl, q⟩

/-! ### list + list, list += list, list * int -/
def rCat : R2 := fun x y H Q => ∃ l b xs zs, x = .ref l ∧ y = .ref b ∧ H l = some (.lst xs) ∧ H b = some (.lst zs) ∧ xs.length + zs.length ≤ sizeLine ∧ ∀ p, H p = none → Q (.ref p) (upd H p (.lst (xs ++ zs)))
theorem op_cat : OpR X (binaryOp .Add) rCat := by
  intro pins s σ H x y v u Q I rx ry h
  obtain ⟨l, b, xs, zs, rfl, rfl, hH, hB, hz, q⟩ := h
  cases rx
  cases ry
  obtain ⟨z, its, n, r, hl, e⟩ := I.lstM hH
  obtain ⟨z2, its2, n2, r2, hl2, e2⟩ := I.lstM hB
  refine PySem.P.add_list e e2 ?_ (by rw [List.size_toArray, List.size_toArray]; omega)
  have ea : its.toArray ++ its2.toArray = (its ++ its2).toArray := by simp
  rw [ea]
  exact ⟨.ref _, _, I.lnew (t' := s.toks) (r.append r2) (by rw [List.length_append]; omega), rfl, q _ I.fresh⟩
/-- a list times an int (a negative one is nothing) -/
def rRep : R2 := fun x y H Q => ∃ l k xs, x = .ref l ∧ y = .int k ∧ H l = some (.lst xs) ∧ -(2 ^ 63) ≤ k ∧ k < 2 ^ 63 ∧ xs.length * k.toNat ≤ sizeLine ∧
  ∀ p, H p = none → Q (.ref p) (upd H p (.lst (List.replicate k.toNat xs).flatten))
theorem len_rep {α : Type} (xs : List α) (k : Nat) : (List.replicate k xs).flatten.length = k * xs.length := by
  induction k with
  | zero => simp
  | succ k ih => rw [List.replicate_succ, List.flatten_cons, List.length_append, ih, Nat.succ_mul, Nat.add_comm]
theorem op_rep : OpR X (binaryOp .Mult) rRep := by
  intro pins s σ H x y v u Q I rx ry h
  obtain ⟨l, k, xs, rfl, rfl, hH, h1, h2, hz, q⟩ := h
  cases rx
  obtain ⟨t, rfl⟩ := ry
  obtain ⟨z, its, n, r, hl, e⟩ := I.lstM hH
  have hlen : its.toArray.size * k.toNat ≤ sizeLine := by rw [List.size_toArray, ← hl]; exact hz
  have hcap : ¬ its.toArray.size * k.toNat > (2 ^ 63 - 1) / 8 := by
    have : (sizeLine : Nat) ≤ (2 ^ 63 - 1) / 8 := by decide
    omega
  have hfit : ¬ (!Builtin.List.listFitsIndex k) = true := by
    rw [fitsIndex_both h1 h2]
    exact Bool.false_ne_true
  have hlong : ¬ Builtin.List.listTooLong (its.toArray.size * k.toNat) = true := by
    rw [notLongL hlen]
    exact Bool.false_ne_true
  have hnew : List.foldl (fun x1 x2 => x1 ++ x2) #[] (List.replicate (if its.toArray.isEmpty = true then 0 else k.toNat) its.toArray) = (List.replicate k.toNat its).flatten.toArray := by
    have f0 : ∀ m : Nat, List.foldl (fun x1 x2 => x1 ++ x2) #[] (List.replicate m its.toArray) = (List.replicate m its).flatten.toArray := fun m => by
      have := foldl_rep its m []
      rw [List.nil_append] at this
      exact this
    rw [f0]
    cases its with
    | nil => simp
    | cons a r' => rw [if_neg (by simp)]
  refine wpAny_binaryOp_repeat_ref (T := "list") (U := "int") (by decide) ⟨_, e, rfl⟩ (fun s' => typeIs_int s' k t) noFill_list_mul F.fills_int_mul F.slot_int_rmul repeat_list F.slot_int_index.lookup
    (call_meets F.slot_int_rmul (typeIs_int s k t) F.entry_int_rmul (F.args_int_rmul_2 _ _) (int___rmul___int_list k t l its.toArray n)
      ⟨e, rfl, ⟨_, e, rfl⟩, call_meets F.slot_list_mul ⟨_, e, rfl⟩ F.entry_list_mul (F.args_list_mul_2 _ _) (AutoListH.list___mul___list_int_3 l its.toArray n k t hfit hcap hlong) ⟨e, ?_⟩⟩)
  rw [hnew]
  exact ⟨.ref _, _, I.lnew (t' := s.toks) (r.rep k.toNat) (by rw [len_rep, Nat.mul_comm]; exact hz), rfl, q _ I.fresh⟩

/-! ### del xs[i] -/
theorem del_list {pins : List (Addr × Obj)} {s : Shared} {σ : St} {H : Hp} {l : Addr} {xs : List V} {i : Int} {t : Tok} {k : Nat} {Q : Unit → Shared → Prop} (I : Inv X pins σ H s) (hH : H l = some (.lst xs))
    (h1 : -(2 ^ 63) ≤ i) (h2 : i < 2 ^ 63) (hk : seqIndex? i xs.length = some k) (h : ∀ s', Inv X pins σ (upd H l (.lst (xs.eraseIdx k))) s' → Q () s') :
    wpAny (model X.prog X.w) X.A (delItem (.ref l) (.int i t)) Q X.xe s := by
  obtain ⟨z, its, n, r, hl, e⟩ := I.lstM hH
  refine PySem.P.delItem_list (k := k) e (fitsIndex_both h1 h2) (by rw [List.size_toArray, ← hl]; exact hk) (h _ ?_) (by rw [List.size_toArray]; omega)
  refine I.lset (its' := its.eraseIdx k) (t' := s.toks) hH e ?_ (r.eraseIdx k) ?_
  · show its.toArray.eraseIdxIfInBounds k = (its.eraseIdx k).toArray
    rw [List.eraseIdxIfInBounds_toArray]
  · have := len_erase xs k
    omega
end

/-! ### xs[a:b] = ys -/
section
variable {prog : Program} {w : World} {A : Around} {E : Value → Shared → Prop} {s : Shared}
theorem splice_eq (its its2 : List Value) (a c : Nat) : its.toArray.extract 0 a ++ its2.toArray ++ its.toArray.extract c its.toArray.size = (its.take a ++ its2 ++ its.drop c).toArray := by
  apply Array.toList_inj.mp
  first
    | (simp
       exact List.take_of_length_le (by simp))
    | simp [List.take_of_length_le]
    | simp
theorem bounds_run {a c n : Nat} (hac : a ≤ c) (hc : c ≤ n) : sliceBounds (some (a : Int)) (some (c : Int)) none n = ((a : Int), (c : Int), 1) := by
  simp only [sliceBounds, Option.getD_none]
  have h1 : ¬ ((a : Int) < 0) := by omega
  have h2 : ¬ ((c : Int) < 0) := by omega
  simp only [h1, h2, if_false, show (1 : Int) > 0 by decide, if_true]
  congr 1
  · omega
  · congr 1; omega
set_option maxRecDepth 100000 in
/-- list.__setitem__ with a slice of step one and another list -/
theorem setItem_slice {l b sl : Addr} {items new : Array Value} {n n2 : Nat} {vl vu : Value} {a c : Nat} {Q : Unit → Shared → Prop}
    (e : s.heap.get? l = some { cls := .type "list", data := .seq items n }) (e2 : s.heap.get? b = some { cls := .type "list", data := .seq new n2 }) (hne : l ≠ b)
    (hs : s.heap.IsSliceOf sl vl vu .none) (pl : IsPart vl (some (a : Int))) (pu : IsPart vu (some (c : Int))) (hac : a ≤ c) (hc : c ≤ items.size)
    (hsz : items.size + new.size ≤ sizeLine) (h : Q () { s with heap := s.heap.update l (Obj.mapSeq fun xs => xs.extract 0 a ++ new ++ xs.extract c xs.size) }) :
    wpAny (model prog w) A (setItem (.ref l) (.ref sl) (.ref b)) Q E s := by
  have hl : s.heap.IsList l items := PySem.IsL.isList e
  have hb : s.heap.IsList b new := PySem.IsL.isList e2
  obtain ⟨os, hos, hcs, hds⟩ := id hs
  have hTs : s.TypeIs (.ref sl) "slice" := ⟨os, hos, hcs⟩
  have hstep : ¬ ((rawPart none == rawInt 0) = true) := Bool.false_ne_true
  have hsame : Builtin.List.listSameRef (.ref l) (.ref b) = false := by
    unfold Builtin.List.listSameRef
    exact beq_eq_false_iff_ne.mpr hne
  have hmax : (max (a : Int) (c : Int)).toNat = c := by omega
  have hz' : ((fun xs : Array Value => xs.extract 0 a ++ new ++ xs.extract c xs.size) items).size ≤ sizeLine + 1 := by
    simp only [Array.size_append, Array.size_extract]
    omega
  unfold setItem
  try with_reducible refine wpAny_holding ?_
  first | refine wpAny_bind (wpAny_pure ?_) | skip
  refine wpAny_bind (wpAny_sequenceKey hl.typeIs (by decide) ?_)
  refine wpAny_bind (wpAny_callSpecial?_slot (name := Str.ofString "__setitem__") hl.typeIs slot_list_setitem
    (wpAny_call_entry slot_list_setitem hl.typeIs entry_list_setitem ?_ (args_list_setitem _ _ _)))
  show wpAny _ _ (Builtin.List.listSubscript? (.ref sl) >>= _) _ _ s
  refine wpAny_bind ?_
  unfold Builtin.List.listSubscript?
  refine wpAny_bind (wpAny_specialOf hTs slice_no_index ?_)
  simp only [Option.isNone_none, if_true]
  refine wpAny_pure ?_
  show wpAny _ _ (typeOf (.ref sl) >>= _) _ _ s
  refine wpAny_bind (wpAny_typeOf hTs ?_)
  first
    | rw [if_neg (by decide)]
    | refine PySem.W.KFB.if_not (by decide) ?_
  rw [listSliceParts_eq]
  refine wpAny_bind (wpAny_bind (wpAny_field hos hds (x := .none) rfl (wpAny_bind (wpAny_listPart .none ?_))))
  rw [if_neg hstep]
  refine wpAny_bind (wpAny_field hos hds (x := vl) rfl (wpAny_bind (wpAny_listPart pl ?_)))
  refine wpAny_bind (wpAny_field hos hds (x := vu) rfl (wpAny_bind (wpAny_listPart pu (wpAny_pure ?_))))
  first
    | simp only [hsame, Bool.false_eq_true, if_false]
    | refine PySem.W.KFB.if_not hsame ?_
    | (dsimp only
       rw [if_neg (by rw [hsame]; exact Bool.false_ne_true)])
  refine wpAny_bind (m := Builtin.List.listAllItems (.ref b) "must assign iterable to extended slice") ?_
  unfold Builtin.List.listAllItems
  refine wpAny_bind (wpAny_typeOf hb.typeIs ?_)
  first
    | refine PySem.W.KFB.if_so (by decide) ?_
    | rw [if_pos (by decide)]
    | simp only [beq_self_eq_true, Bool.true_or, if_true]
  unfold Builtin.List.listItems
  refine wpAny_bind (wpAny_seqItems e2 rfl (wpAny_pure ?_))
  refine wpAny_bind (wpAny_bind (wpAny_seqItems e rfl (wpAny_pure ?_)))
  refine wpAny_bind (wpAny_of_eq ((sliceIndices_raw (some (a : Int)) (some (c : Int)) none items.size (by simp)).trans (congrArg (pure : Int × Int × Int → Sem (Int × Int × Int)) (bounds_run hac hc))) ?_)
  show wpAny _ _ (if ((1 : Int) == 1) = true then _ else _) _ _ s
  rw [if_pos (by decide)]
  refine wpAny_bind (wpAny_rule ?_)
  first
    | simp only [notLongL hsz, Bool.false_eq_true, if_false]
    | refine PySem.W.KFB.if_not (notLongL hsz) ?_
  first | refine wpAny_bind (wpAny_pure ?_) | skip
  show wpAny _ _ (updateSeq l (fun xs => xs.extract 0 ((a : Int)).toNat ++ new ++ xs.extract (max (a : Int) (c : Int)).toNat xs.size) >>= _) _ _ s
  rw [hmax, Int.toNat_natCast]
  refine wpAny_bind (wpAny_updateSeq (hz := Nat.le_trans (Nat.le_add_right _ _) hsz) (_hz' := hz') e rfl ?_)
  refine wpAny_bind (wpAny_letGo ?_)
  first
    | exact wpAny_bind (wpAny_pure (wpAny_pure ⟨.none, rfl, wpAny_pure h⟩))
    | exact wpAny_pure ⟨.none, rfl, wpAny_pure h⟩
end

section
variable {X : Cx}
/-- xs[a:c] = ys of another list, at the value level: sl is the slice object that was just made -/
theorem set_slice {pins : List (Addr × Obj)} {s : Shared} {σ : St} {H : Hp} {l b sl : Addr} {xs ys : List V} {a c : Int} {vl vu : Value} {Q : Unit → Shared → Prop} (I : Inv X pins σ H s)
    (hH : H l = some (.lst xs)) (hB : H b = some (.lst ys)) (hne : l ≠ b) (hs : s.heap.IsSliceOf sl vl vu .none) (ra : RelV (.int a) vl) (rc : RelV (.int c) vu) (h0 : 0 ≤ a) (hac : a ≤ c) (hc : c ≤ xs.length)
    (hz : xs.length + ys.length ≤ sizeLine) (h : ∀ s', Inv X pins σ (upd H l (.lst (xs.take a.toNat ++ ys ++ xs.drop c.toNat))) s' → Q () s') :
    wpAny (model X.prog X.w) X.A (setItem (.ref l) (.ref sl) (.ref b)) Q X.xe s := by
  obtain ⟨ta, rfl⟩ := ra
  obtain ⟨tc, rfl⟩ := rc
  obtain ⟨z, its, n, r, hl, e⟩ := I.lstM hH
  obtain ⟨z2, its2, n2, r2, hl2, e2⟩ := I.lstM hB
  obtain ⟨a', rfl⟩ := Int.eq_ofNat_of_zero_le h0
  obtain ⟨c', rfl⟩ := Int.eq_ofNat_of_zero_le (Int.le_trans h0 hac)
  simp only [Int.toNat_natCast] at h
  refine setItem_slice (a := a') (c := c') e e2 hne hs (.int _ _) (.int _ _) (by omega) (by rw [List.size_toArray]; omega) (by rw [List.size_toArray, List.size_toArray]; omega) (h _ ?_)
  refine I.lset (its' := its.take a' ++ its2 ++ its.drop c') (t' := s.toks) hH e ?_ (Vals.append (Vals.append (r.take _) r2) (r.drop _)) ?_
  · exact splice_eq its its2 a' c'
  · rw [List.length_append, List.length_append, List.length_take, List.length_drop]
    omega
end
end L2

namespace Att
open PySem PySem.W PySem.Calls PyProof.Rows

/-! ### the script -/
theorem ints_of_wellAll {P : Params} {h : Heap} : ∀ (ns : List Int) (vs : List Value), WellAll P h vs (ns.map WData.int) → IntsAre vs ns := by
  intro ns
  induction ns with
  | nil =>
    intro vs w
    rw [List.map_nil] at w
    cases w
    exact .nil
  | cons n ns ih =>
    intro vs w
    rw [List.map_cons] at w
    cases w with
    | cons a b =>
      cases a
      exact .cons _ _ (ih _ b)

theorem script_of {l : OpenLaw} {n : Nat} (hn : l.most = some n) {P : Params} {h : Heap} {args : List WData} {vals : List Value}
    (hpre : l.row.toRowW.claim.pre args = true) (hwl : WellAll P h vals args) :
    ∃ a vs ns, vals = [Value.ref a] ∧ args = [WData.list (ns.map WData.int)] ∧ h.get? a = some { cls := .type "list", data := .seq vs.toArray } ∧ IntsAre vs ns ∧ ns.length ≤ n := by
  have hsh : WShape.hasAll [] args [.list .int] = true := (pre_splitW hpre).1
  have hc : l.pre.holds [] { args := args } = true := (pre_splitW hpre).2
  obtain ⟨d, r, rfl, h1, h2⟩ := hasAllW_cons hsh
  obtain rfl := hasAllW_nil h2
  obtain ⟨xs, rfl, h3⟩ := hasW_list h1
  obtain ⟨ns, rfl⟩ := items_int h3
  have hlen : ns.length ≤ n := by
    unfold OpenLaw.pre at hc
    have h4 : (WTm.not (.lt (.lit (.int (n : Int))) (.len (.arg 0)))).holds [] { args := [.list (ns.map .int)] } = true := by
      have h4 := (holds_andW hc).1
      rw [hn] at h4
      exact h4
    have h5 := condW_of h4 (w_not (w_lt w_lit (w_len_list (w_arg rfl))))
    rw [List.length_map] at h5
    refine Nat.le_of_not_lt fun q => ?_
    have q' : (n : Int) < ((ns.length : Nat) : Int) := by omega
    first
      | (rw [decide_eq_true q'] at h5; exact absurd h5 (by decide))
      | (simp at h5; omega)
  cases hwl with
  | cons w1 w2 =>
    cases w2
    cases w1 with
    | list ho hall => exact ⟨_, _, ns, rfl, rfl, ho, ints_of_wellAll ns _ hall, hlen⟩

theorem post_true (l : OpenLaw) (args : List WData) : l.row.toRowW.claim.post args (.bool true) args = true :=
  postW_of (r := l.row.toRowW) (X := (true == true))
    (show WShape.has [] (.bool true) .bool = true by first | rfl | decide | simp [WShape.has, WShape.arms, WShape.armsAll])
    (show (WTm.eq .res (.lit (.bool true))).value [] { args := args, res := some (.bool true), after := args } = some (.bool (true == true)) from w_eq_bool (w_res rfl) w_lit) rfl

/-! ### the attachment: holds_open's last premise (the goal 'hc' behind k_head) from a wpAny of the law's body -/
theorem attach {l : OpenLaw} {n : Nat} {q : Program} {loose : List Str} {XP : (Str → Option Value) → Heap → Prop} {YP : World → Heap → Prop} {d : DefRec} {x : Str}
    (hn : l.most = some n) (hdf : d.params.defaults = [])
    (hbind : ∀ pm cd doc v : Value, bindArgs (docDef d.name d.params d.body d.scope pm cd doc) ⟨[v], []⟩ = pure [(x, v)])
    (hx : d.scope.names.lookup x = some .local ∨ d.scope.names.lookup x = some .cell)
    (hk : d.scope.kind = .function) (hco : d.scope.isCoroutine = false) (hgen : d.scope.isGenerator = false)
    (body : ∀ (w : World) (s₀ s₁ s : Shared) (mg mb : Str → Option Value) (fa : Addr) (o : Obj) (pm cd doc : Value) (a : Addr) (vs : List Value) (ns : List Int),
      Ground q loose [] XP w s₀ mg mb s₁.heap → YP w s₁.heap →
      s₁.heap.get? fa = some o → o.data = .func (docDef d.name d.params d.body d.scope pm cd doc) → s₁.heap.CodeRec cd d.name → mg d.name = some (.ref fa) →
      s₁.heap.get? a = some { cls := .type "list", data := .seq vs.toArray } → IntsAre vs ns → ns.length ≤ n →
      s.gens = #[] → s.os = s₁.os →
      Fr s₁.heap s₁.heap.objs.size s.heap (bindL (envOfC d.name d.scope s₁.heap.objs.size fa cd).kindOf [(x, .ref a)] fun _ => none) →
      Cl s₁.heap.objs.size (cellsFrom (s₁.heap.objs.size + 1) d.scope.names []) s.heap (bindC (envOfC d.name d.scope s₁.heap.objs.size fa cd).kindOf [(x, .ref a)] fun _ => none) →
      wpAny (model l.prog w) (callerA.deeper (envOfC d.name d.scope s₁.heap.objs.size fa cd)) (execs d.body (envOfC d.name d.scope s₁.heap.objs.size fa cd))
        (fun f s' => f = .ret (.bool true) ∧ OldK s₁.heap s'.heap ∧ s'.os = s₁.os ∧ AllBare s'.gens) (fun _ _ => False) s) :
    WalkO q loose XP YP l.row.toRowW d [] (fun f vs => PySem.call f vs) := by
  intro w s₀ s₁ mg mb G Y fa o pm cd doc dV kV ho hd hcd hD hmg hg args vals as hpre hlay hrd hwl hlo
  obtain rfl : dV = .none := Dflts.none hD hdf
  obtain rfl : kV = .none := Dflts.noKw hD
  obtain ⟨a, vs, ns, rfl, rfl, hobj, hints, hlen⟩ := script_of hn hpre hwl
  refine enter_call ?_
  refine call_cells_ret (o := o) (by rw [depth_caller]; decide) ho (fd_plain hd) G.T.nolimit hcd (hbind pm cd doc (.ref a)) (fun y hy => ?_) (fun h₁ tk F X => ?_) hco hgen hk
  · obtain rfl : y = (x, Value.ref a) := List.mem_singleton.mp hy
    rcases hx with e | e
    · exact .inl e
    · exact .inr ⟨e, cellsFrom_some _ _ _ (.inl e)⟩
  · refine wpAny_mono (body w s₀ s₁ { s₁ with heap := h₁, toks := tk } mg mb fa o pm cd doc a vs ns G Y ho (fd_plain hd) hcd hmg hobj hints hlen hg rfl F X) (fun f s' hq => ?_) (fun _ _ hq => hq)
    obtain ⟨rfl, h2, h3, h4⟩ := hq
    exact ⟨.inl ⟨.bool true, .bool true, [], rfl, fun _ => rfl, .bool true, post_true l _, fun _ => ⟨List.Pairwise.nil, fun _ hm => (nomatch hm)⟩⟩, h2, h3, h4⟩

/-- the same from a codeAny of the CALL (for a layer whose function contracts speak of calls) -/
theorem attach_call {l : OpenLaw} {n : Nat} {q : Program} {loose : List Str} {XP : (Str → Option Value) → Heap → Prop} {YP : World → Heap → Prop} {d : DefRec}
    (hn : l.most = some n) (hdf : d.params.defaults = [])
    (call : ∀ (w : World) (s₀ s₁ : Shared) (mg mb : Str → Option Value) (fa : Addr) (o : Obj) (pm cd doc : Value) (a : Addr) (vs : List Value) (ns : List Int),
      Ground q loose [] XP w s₀ mg mb s₁.heap → YP w s₁.heap →
      s₁.heap.get? fa = some o → o.data = .func (docDef d.name d.params d.body d.scope pm cd doc) → s₁.heap.CodeRec cd d.name → mg d.name = some (.ref fa) →
      s₁.heap.get? a = some { cls := .type "list", data := .seq vs.toArray } → IntsAre vs ns → ns.length ≤ n → s₁.gens = #[] →
      codeAny (model l.prog w) callerA (.call (.ref fa) ⟨[.ref a], []⟩) (fun r s' => r = .ok (.ret (.bool true)) ∧ OldK s₁.heap s'.heap ∧ s'.os = s₁.os ∧ AllBare s'.gens) s₁) :
    WalkO q loose XP YP l.row.toRowW d [] (fun f vs => PySem.call f vs) := by
  intro w s₀ s₁ mg mb G Y fa o pm cd doc dV kV ho hd hcd hD hmg hg args vals as hpre hlay hrd hwl hlo
  obtain rfl : dV = .none := Dflts.none hD hdf
  obtain rfl : kV = .none := Dflts.noKw hD
  obtain ⟨a, vs, ns, rfl, rfl, hobj, hints, hlen⟩ := script_of hn hpre hwl
  refine enter_call (codeAny_mono (call w s₀ s₁ mg mb fa o pm cd doc a vs ns G Y ho (fd_plain hd) hcd hmg hobj hints hlen hg) fun r s' hq => ?_)
  obtain ⟨rfl, h2, h3, h4⟩ := hq
  exact ⟨.inl ⟨.bool true, .bool true, [], rfl, fun _ => rfl, .bool true, post_true l _, fun _ => ⟨List.Pairwise.nil, fun _ hm => (nomatch hm)⟩⟩, h2, h3, h4⟩

/-- the same where the top left finished generators (o_head chose holds_openN): nothing may have changed at all and no generator may be left -/
theorem attachN {l : OpenLaw} {n : Nat} {q : Program} {loose : List Str} {XP : (Str → Option Value) → Heap → Prop} {YP : World → Heap → Prop} {d : DefRec} {x : Str}
    (hn : l.most = some n) (hdf : d.params.defaults = [])
    (hbind : ∀ pm cd doc v : Value, bindArgs (docDef d.name d.params d.body d.scope pm cd doc) ⟨[v], []⟩ = pure [(x, v)])
    (hx : d.scope.names.lookup x = some .local ∨ d.scope.names.lookup x = some .cell)
    (hk : d.scope.kind = .function) (hco : d.scope.isCoroutine = false) (hgen : d.scope.isGenerator = false)
    (body : ∀ (w : World) (s₀ s₁ s : Shared) (mg mb : Str → Option Value) (fa : Addr) (o : Obj) (pm cd doc : Value) (a : Addr) (vs : List Value) (ns : List Int),
      Ground q loose [] XP w s₀ mg mb s₁.heap → YP w s₁.heap →
      s₁.heap.get? fa = some o → o.data = .func (docDef d.name d.params d.body d.scope pm cd doc) → s₁.heap.CodeRec cd d.name → mg d.name = some (.ref fa) →
      s₁.heap.get? a = some { cls := .type "list", data := .seq vs.toArray } → IntsAre vs ns → ns.length ≤ n →
      s.gens = #[] → s.os = s₁.os →
      Fr s₁.heap s₁.heap.objs.size s.heap (bindL (envOfC d.name d.scope s₁.heap.objs.size fa cd).kindOf [(x, .ref a)] fun _ => none) →
      Cl s₁.heap.objs.size (cellsFrom (s₁.heap.objs.size + 1) d.scope.names []) s.heap (bindC (envOfC d.name d.scope s₁.heap.objs.size fa cd).kindOf [(x, .ref a)] fun _ => none) →
      wpAny (model l.prog w) (callerA.deeper (envOfC d.name d.scope s₁.heap.objs.size fa cd)) (execs d.body (envOfC d.name d.scope s₁.heap.objs.size fa cd))
        (fun f s' => f = .ret (.bool true) ∧ (∀ b o, s₁.heap.get? b = some o → s'.heap.get? b = some o) ∧ s'.os = s₁.os ∧ s'.gens = #[]) (fun _ _ => False) s) :
    WalkN q loose XP YP l.row.toRowW d [] (fun f vs => PySem.call f vs) := by
  intro w s₀ s₁ mg mb G Y fa o pm cd doc dV kV ho hd hcd hD hmg hg args vals as hpre hlay hrd hwl hlo
  obtain rfl : dV = .none := Dflts.none hD hdf
  obtain rfl : kV = .none := Dflts.noKw hD
  obtain ⟨a, vs, ns, rfl, rfl, hobj, hints, hlen⟩ := script_of hn hpre hwl
  refine enter_callW ?_
  refine call_cells_ret (o := o) (by rw [depth_caller]; decide) ho (fd_plain hd) G.T.nolimit hcd (hbind pm cd doc (.ref a)) (fun y hy => ?_) (fun h₁ tk F X => ?_) hco hgen hk
  · obtain rfl : y = (x, Value.ref a) := List.mem_singleton.mp hy
    rcases hx with e | e
    · exact .inl e
    · exact .inr ⟨e, cellsFrom_some _ _ _ (.inl e)⟩
  · refine wpAny_mono (body w s₀ s₁ { s₁ with heap := h₁, toks := tk } mg mb fa o pm cd doc a vs ns G Y ho (fd_plain hd) hcd hmg hobj hints hlen hg rfl F X) (fun f s' hq => ?_) (fun _ _ hq => hq)
    obtain ⟨rfl, h2, h3, h4⟩ := hq
    exact ⟨.inl ⟨.bool true, .bool true, [], rfl, fun _ => rfl, .bool true, post_true l _, fun _ => ⟨List.Pairwise.nil, fun _ hm => (nomatch hm)⟩⟩, h2, h3, h4⟩

/-! ### rules over ANY heap (no ledger) from facts about the written part K: the library's own take a ledger (News) for what they write -/
section
variable {prog : Program} {w : World} {A : Around} {E : Value → Shared → Prop} {s : Shared} {K : Frag}

/-- a def of the module, or a method (qual 'C.m'), entered: the frame is the next address; cells behind it -/
theorem call_fn {R : Result → Shared → Prop} {name qual : Str} {params : Arguments} {body : List Stmt} {scope : Scope} {dV kV doc pm cdv ct oc : Value} {an od : Option Addr} {osl : Array (Option Value)} {f : Addr} {args : Args} {binds : List (Str × Value)}
    (X : K.In s.heap) (hlim : s.heap.NoLimit) (ho : K.lookup f = some ⟨oc, od, .func (fnOf name qual params body scope dV kV doc pm an cdv ct), osl⟩) (hcd : codeIn K cdv qual = true) (hroom : A.depth < recursionLimit)
    (hbind : BindsTo s (fnOf name qual params body scope dV kV doc pm an cdv ct) args binds)
    (hkind : (binds.all fun y => scope.names.lookup y.1 == some .local || scope.names.lookup y.1 == some .cell) = true)
    (h : ∀ s₁, InCallC s s.heap.objs.size (bindL (envOfC qual scope s.heap.objs.size f cdv).kindOf binds fun _ => none) (cellsFrom (s.heap.objs.size + 1) scope.names [])
        (bindC (envOfC qual scope s.heap.objs.size f cdv).kindOf binds fun _ => none) s₁ →
      wpAny (model prog w) (A.deeper (envOfC qual scope s.heap.objs.size f cdv)) (execs body (envOfC qual scope s.heap.objs.size f cdv))
        (fun fl s' => R (.ok (.ret (match fl with | .ret v => v | _ => .none))) s')
        (fun e s' => wpAny (model prog w) (A.deeper (envOfC qual scope s.heap.objs.size f cdv)) (leaving (envOfC qual scope s.heap.objs.size f cdv) e) (fun _ s'' => R (.error e) s'') (fun e' s'' => R (.error e') s'') s') s₁)
    (hco : scope.isCoroutine = false) (hgen : scope.isGenerator = false) (hk : scope.kind = .function) : codeAny (model prog w) A (.call (.ref f) args) R s := by
  refine codeAny_call_function hroom (X _ _ ho) rfl hco hgen rfl (codeRec_of X hcd) (hbind _ _ _ _ ?_)
  refine wpAny_newFunctionEnv_cells hk (kindsX hkind _) fun env he s₁ x => ?_
  subst he
  exact ⟨hlim.keeps x.toInCall.keep, codeAny_func (h s₁ x)⟩

/-- C(..): dict at size, instance at size + 1, then __init__ -/
theorem make_obj {R : Result → Shared → Prop} {C fI : Addr} {rest : List Value} {kw : List (Str × Value)}
    (X : K.In s.heap) (hm : makesIn K C = true) (hi : findIn K (.ref C) "__init__" = some (some (.ref fI))) (hf : isFn K (.ref fI) = true)
    (h : codeAny (model prog w) (A.under (.builtin "type.__call__" ⟨.ref C :: rest, kw⟩)) (.call (.ref fI) ⟨.ref (s.heap.objs.size + 1) :: rest, kw⟩) (InitBack (s.heap.objs.size + 1) R)
      { s with heap := (s.heap.push emptyDict).push (instObj C s.heap.objs.size) }) : codeAny (model prog w) A (.call (.ref C) ⟨rest, kw⟩) R s := by
  obtain ⟨hh, g, d, t, os⟩ := s
  exact make_core (makes_of X hm) (looks_findIn X hi) (fun self => bind_fn X self (beq_iff_eq.mp hf)) (.inl rfl) h

/-- x.name where the instance's dict holds the name and the class does not -/
theorem get_field {x C : Addr} {ox : Obj} {es : List DictEntry} {n : Nat} {name : Str} {expr : Bool} {v : Value} {Q : Value → Shared → Prop}
    (X : K.In s.heap) (I : PySem.W.InstAt s.heap x ox C (some (dictOf es n))) (hg : plainGet K C name = true) (hh : hasDictIn K C = true) (ha : findIn K (.ref C) name = some none)
    (hl : getL name es = some (some v)) (hv : handedIn v = true) (h : Q v { s with toks := s.toks + 1 }) : wpAny (model prog w) A (getAttr (.ref x) name expr) Q E s :=
  get_value X I (plainGet_of hg).1 (findObj_own hh ha rfl hl) hv h

/-- x.m(..): the method found in the class -/
theorem get_method {x C f : Addr} {ox : Obj} {es : List DictEntry} {n : Nat} {name : Str} {pl : Sem Bool} {Q : Value × List Value → Shared → Prop}
    (X : K.In s.heap) (I : PySem.W.InstAt s.heap x ox C (some (dictOf es n))) (hg : plainGet K C name = true) (hf : findIn K (.ref C) name = some (some (.ref f))) (ht : isFn K (.ref f) = true)
    (hl : getL name es = some none) (h : Q (.ref f, [.ref x]) s) : wpAny (model prog w) A (getMethod (.ref x) name pl) Q E s :=
  method_fn X I (plainGet_of hg).1 (plainGet_of hg).2 hf (beq_iff_eq.mp ht) (by show (lookIn name (dictOf es n)).map _ = _; rw [lookIn_dict, hl]; rfl) h

/-! the whole heap as the ledger: makes every rule that writes through a ledger a rule over any heap -/
def noObjs (h : Heap) : Heap := { h with objs := #[] }
theorem noObjs_get (h : Heap) (b : Addr) : (noObjs h).get? b = none := by
  cases e : (noObjs h).get? b with
  | none => rfl
  | some o => exact absurd (Heap.lt_size e) (Nat.not_lt_zero _)
def ledger (h : Heap) (L d : Addr) : List (Addr × Obj) := (List.range h.objs.size).filterMap fun a => if a = L ∨ a = d then none else (h.get? a).map fun o => (a, o)
theorem mem_ledger {h : Heap} {L d a : Addr} {o : Obj} : (a, o) ∈ ledger h L d ↔ a ≠ L ∧ a ≠ d ∧ h.get? a = some o := by
  unfold ledger
  rw [List.mem_filterMap]
  constructor
  · rintro ⟨b, _, e⟩
    split at e
    · cases e
    · rename_i hb
      obtain ⟨o', ho, e'⟩ := Option.map_eq_some_iff.mp e
      cases e'
      exact ⟨fun q => hb (.inl q), fun q => hb (.inr q), ho⟩
  · rintro ⟨n1, n2, ho⟩
    refine ⟨a, List.mem_range.mpr (Heap.lt_size ho), ?_⟩
    rw [if_neg (show ¬ (a = L ∨ a = d) from fun q => q.elim n1 n2), ho] <;> rfl
theorem news_ledger {h : Heap} {L d : Addr} {od : Obj} (hne : d ≠ L) (ho : h.get? d = some od) : News (noObjs h) L h ([] ++ (d, od) :: ledger h L d) := by
  rintro ⟨a, o⟩ hp
  rcases List.mem_cons.mp hp with e | hp
  · cases e
    exact ⟨ho, hne, noObjs_get _ _⟩
  · obtain ⟨n1, n2, e⟩ := mem_ledger.mp hp
    exact ⟨e, n1, noObjs_get _ _⟩
theorem fr_all {h : Heap} {L : Addr} {m : Str → Option Value} (n : h.Ns L m) : Fr (noObjs h) L h m :=
  ⟨n, fun b o e => (by rw [noObjs_get] at e; cases e), Nat.zero_le _⟩
/-- Upd of the head entry (for append_K, setItem_K ..) -/
theorem upd_ledger {h : Heap} {L d : Addr} {o o' : Obj} : Upd d o o' ((d, o) :: ledger h L d) ((d, o') :: ledger h L d) :=
  .head fun ⟨_, _⟩ hp => (mem_ledger.mp hp).2.1

/-- x.name = v over any heap: L is any namespace of the heap (the frame's, say): its map stays, its object is not told; all else but the dict stays -/
theorem set_field {x C dx L : Addr} {ox : Obj} {m : Str → Option Value} {es es' : List DictEntry} {n n' : Nat} {name : Str} {v : Value} {Q : Unit → Shared → Prop}
    (X : K.In s.heap) (I : PySem.W.InstAt s.heap x ox C (some (dictOf es n))) (hd : ox.dict = some dx) (hL : s.heap.Ns L m) (hne : dx ≠ L)
    (hs : findIn K (.ref C) "__setattr__" = some (some (.builtin "object.__setattr__"))) (hp : plainOver K C = true) (ht : takerIn K C name = some none) (hh : hasDictIn K C = true) (hl : (getL name es).isSome = true)
    (e : (putL name (PyData.keyHash w.params name) (.str name (s.toks + 1)) v es, putN name es n) = (es', n')) (hz : es'.length ≤ 1000)
    (h : ∀ h' : Heap, h'.Ns L m → h'.get? dx = some (dictOf es' n') → (∀ b o, b ≠ dx → b ≠ L → s.heap.get? b = some o → h'.get? b = some o) → Q () { s with heap := h', toks := s.toks + 2 }) :
    wpAny (model prog w) A (setAttr (.ref x) name v) Q E s := by
  obtain ⟨e1, e2⟩ := Prod.mk.inj e
  have hdx : s.heap.get? dx = some (dictOf es n) := by
    have := I.dict
    rw [hd] at this
    exact this
  refine set_plain X I hs (osa_dict (s := { s with toks := s.toks + 1 }) (h₀ := noObjs s.heap) (L := L) (m := m) (od := dictOf es n) (od' := dictOf es' n') (es := es') (n := n') (pre := []) (post := ledger s.heap L dx)
    (fr_all hL) (news_ledger hne hdx) X I hd hp ht hh hl (fun _ q => nomatch q) (fun ⟨_, _⟩ q => (mem_ledger.mp q).2.1) (by rw [putName_dict, e1, e2]) rfl hz fun h' F' N' => ?_)
  exact h h' F'.ns (N'.get (List.Mem.head _)) fun b o n1 n2 ho => N'.get (List.Mem.tail _ (mem_ledger.mpr ⟨n2, n1, ho⟩))
end
end Att

namespace L2
open PySem PySem.Spec PyProof.Rows

theorem vals_ints : ∀ {vs : List Value} {ns : List Int}, IntsAre vs ns → Vals (ns.map V.int) vs
  | _, _, .nil => .nil
  | _, _, .cons n t h => .cons ⟨t, rfl⟩ (vals_ints h)

/-- nothing is tracked but the script, known to the object (or it is an object of the module) -/
def Only (H : Hp) : Prop := ∀ b, H b = none ∨ ∃ o xs, H b = some (.frz o (.lst xs))

/-- THE HEAD: the law's promise, at the heap behind the top. F, the promise of the law's def, may use that base is part of the heap (so K.In base, base.Ns mainGlobals mg stand in Mod) -/
theorem law_call {P : Program} {w : World} {K : PySem.W.Frag} {mg mb : Str → Option Value} {CX : CXT} {k : Nat} {fa a : Addr} {fd : FuncData} {x : Str} {sp : Sp} {s₁ : Shared} {vs : List Value} {ns : List Int}
    (KX : K.In s₁.heap) (hns : s₁.heap.Ns mainGlobals mg) (hb : s₁.heap.Ns builtinsNs mb) (hbb : ∀ x : Str, x ≠ "__name__" → mb x = bootBuiltins x) (hlim : s₁.heap.NoLimit) (hg : s₁.gens = #[])
    (ha : s₁.heap.get? a = some { cls := .type "list", data := .seq vs.toArray }) (hi : IntsAre vs ns) (hl : ns.length ≤ sizeLine) (hr : Room k callerA)
    (F : ∀ base : Heap, K.In base → base.Ns mainGlobals mg → FnOk P w K mg base CX k fa fd [x] sp) (hbind : ∀ (s : Shared) (u : Value), BindsTo s fd ⟨[u], []⟩ [(x, u)])
    (hsp : ∀ H : Hp, Only H → SqL K H a (ns.map V.int) → sp [.ref a] H (fun v _ => v = .bl true) fun _ _ _ => False)
    (hCX : ∀ H e s', CX [] H s₁ (fun _ _ _ => False) e s' → False) :
    codeAny (model P w) callerA (.call (.ref fa) ⟨[.ref a], []⟩) (fun r s' => r = .ok (.ret (.bool true)) ∧ OldK s₁.heap s'.heap ∧ s'.os = s₁.os ∧ AllBare s'.gens) s₁ := by
  have rv := vals_ints hi
  have lenV := hi.length
  -- from an abstract heap in which nothing but the script may be tracked
  have core : ∀ H : Hp, Only H → SqL K H a (ns.map V.int) → HOk P w H s₁.heap → (∀ b, H b ≠ none → b = a) → (H a ≠ none → K.lookup a = none) →
      codeAny (model P w) callerA (.call (.ref fa) ⟨[.ref a], []⟩) (fun r s' => r = .ok (.ret (.bool true)) ∧ OldK s₁.heap s'.heap ∧ s'.os = s₁.os ∧ AllBare s'.gens) s₁ := by
    intro H hO hS hok hA hK
    have base_of : ∀ {b : Addr} {o : Obj}, s₁.heap.get? b = some o → H b = none → (hidT s₁.heap H).get? b = some o := fun e n => hidT_get e n
    have noA : ∀ {b : Addr} {o : Obj} {es : Array DictEntry} {ep : Nat}, s₁.heap.get? b = some o → o.data = .dict es ep → H b = none := fun {b o es ep} e d => by
      cases q : H b with
      | none => rfl
      | some u =>
        have e' : b = a := hA b (by rw [q]; simp)
        subst e'
        rw [ha] at e; cases e
        have d' : Data.seq vs.toArray _ = Data.dict es ep := d
        cases d'
    have nsK : ∀ {b : Addr} {m : Str → Option Value}, s₁.heap.Ns b m → (hidT s₁.heap H).Ns b m := fun {b m} ⟨o, es, ep, e, d, r⟩ => ⟨o, es, ep, base_of e (noA e d), d, r⟩
    have hKb : K.In (hidT s₁.heap H) := fun b o e => base_of (KX b o e) (by
      cases q : H b with
      | none => rfl
      | some u =>
        have e' : b = a := hA b (by rw [q]; simp)
        subst e'
        rw [hK (by rw [q]; simp)] at e; cases e)
    have hM : Mod K mg (hidT s₁.heap H) := ⟨hKb, nsK hns, ⟨mb, nsK hb, hbb⟩, let ⟨mc, h1, h2⟩ := hlim; ⟨mc, nsK h1, h2⟩⟩
    have e0 : Env0 P w K mg (hidT s₁.heap H) callerA [] s₁ H := ⟨rfl, hM, fun b o e => of_hidT e, Nat.le_of_eq (hidT_size _ _), trivial, fun b hb => absurd (show b ∈ ([] : List Addr) from hb) (by simp), hok, .of_eq hg⟩
    refine codeAny_mono ((F _ hKb (nsK hns)).run callerA [] s₁ H ⟨[.ref a], []⟩ [.ref a] [.ref a] _ _ hr e0 (hbind s₁ (.ref a)) (.cons rfl .nil) (hsp H hO hS)) fun r s' h => ?_
    cases r with
    | error e => exact (hCX H e s' h).elim
    | ok fl =>
      cases fl with
      | next => exact False.elim h
      | brk => exact False.elim h
      | cont => exact False.elim h
      | ret u =>
        obtain ⟨v, H', os, bare, un, hok', r', q⟩ := h
        have q' : v = .bl true := q
        subst q'
        obtain rfl : u = Value.bool true := r'
        refine ⟨rfl, OldK.of_keep fun b o e => ?_, os, bare⟩
        cases q : H b with
        | none => exact un.keep b o e q (by intro z; exact absurd (show b ∈ ([] : List Addr) from z) (by simp)) (by simp)
        | some u =>
          rcases hO b with z | ⟨ob, xs, z⟩
          · rw [q] at z; cases z
          · have z2 := un.frzs b ob _ z
            obtain ⟨e1, _⟩ := hok b _ z
            obtain ⟨e2, _⟩ := hok' b _ z2
            rw [e] at e1; cases e1
            exact e2
  cases hk : K.lookup a with
  | some o =>
    -- the script is one of the module's own objects
    have e := KX a o hk
    rw [ha] at e
    cases e
    refine core (fun _ => none) (fun _ => .inl rfl) (.inr ⟨_, vs.toArray, _, hk, rfl, rfl, rfl, by rw [List.size_toArray, lenV]; exact hl, by simpa using rv⟩) (fun b u z => by have z' : (none : Option HO) = some u := z; cases z') (fun b z => absurd rfl z) fun z => absurd rfl z
  | none =>
    refine core (fun b => if b = a then some (.frz { cls := .type "list", data := .seq vs.toArray } (.lst (ns.map V.int))) else none) (fun b => ?_) (.inl (.inr ⟨{ cls := .type "list", data := .seq vs.toArray }, if_pos rfl⟩)) (fun b u z => ?_) (fun b z => ?_) fun _ => hk
    · by_cases hb : b = a
      · exact .inr ⟨_, _, if_pos hb⟩
      · exact .inl (if_neg hb)
    · by_cases hb : b = a
      · have z' := (if_pos hb).symm.trans z
        cases z'
        subst hb
        exact ⟨ha, by rw [List.length_map]; exact hl, vs, _, rv, ha⟩
      · have z' := (if_neg hb).symm.trans z
        cases z'
    · by_cases hb : b = a
      · exact hb
      · exact absurd (if_neg hb) z
end L2

namespace L2
open PySem PySem.Spec PyProof.Rows

abbrev KOf {K : PySem.W.Frag} {h : Heap} (_ : K.In h) : PySem.W.Frag := K

/-- the goal that k_head leaves (case hc), from the law's promise. F gives the function object fd (K's own) once, then the promise over every base -/
theorem walk_of {l : PySem.W.OpenLaw} {n k : Nat} {q : Program} {loose : List Str} {XP : (Str → Option Value) → Heap → Prop} {YP : World → Heap → Prop} {d : DefRec} {K : Params → PySem.W.Frag} {CX : World → CXT} {sp : World → Sp} {x : Str}
    (hn : l.most = some n) (hn2 : n ≤ sizeLine) (hdf : d.params.defaults = []) (hr : Room k callerA)
    (hY : ∀ (w : World) (h : Heap), YP w h → (K w.params).In h)
    (F : ∀ (w : World) (mg : Str → Option Value) (fa : Addr) (h : Heap), (K w.params).In h → h.Ns mainGlobals mg → mg d.name = some (.ref fa) →
      ∃ fd : FuncData, (∀ (s : Shared) (u : Value), BindsTo s fd ⟨[u], []⟩ [(x, u)]) ∧
        ∀ base : Heap, (K w.params).In base → base.Ns mainGlobals mg → FnOk l.prog w (K w.params) mg base (CX w) k fa fd [x] (sp w))
    (hsp : ∀ (w : World) (H : Hp) (a : Addr) (ns : List Int), ns.length ≤ n → Only H → SqL (K w.params) H a (ns.map V.int) → sp w [.ref a] H (fun v _ => v = .bl true) fun _ _ _ => False)
    (hCX : ∀ (w : World) (H : Hp) (s : Shared) (e : Value) (s' : Shared), CX w [] H s (fun _ _ _ => False) e s' → False) :
    PySem.W.WalkO q loose XP YP l.row.toRowW d [] (fun f vs => PySem.call f vs) := by
  refine Att.attach_call hn hdf fun w s₀ s₁ mg mb fa o pm cd doc a vs ns G Y ho hd hcd hmg hobj hints hlen hg => ?_
  have KX := hY w _ Y
  obtain ⟨fd, hb, hF⟩ := F w mg fa _ KX G.T.g hmg
  exact law_call KX G.T.g G.T.b G.T.builtins G.T.nolimit hg hobj hints (Nat.le_trans hlen hn2) hr hF hb (fun H hO hS => hsp w H a ns hlen hO hS) fun H e s' => hCX w H s₁ e s'
/-- the same where the promise hangs on the written part alone: (sp := My.sp_law), no hole under a binder -/
theorem walk_ofK {l : PySem.W.OpenLaw} {n k : Nat} {q : Program} {loose : List Str} {XP : (Str → Option Value) → Heap → Prop} {YP : World → Heap → Prop} {d : DefRec} {K : Params → PySem.W.Frag} {CX : CXT} {sp : PySem.W.Frag → Sp} {x : Str}
    (hn : l.most = some n) (hn2 : n ≤ sizeLine) (hdf : d.params.defaults = []) (hr : Room k callerA)
    (hY : ∀ (w : World) (h : Heap), YP w h → (K w.params).In h)
    (F : ∀ (w : World) (mg : Str → Option Value) (fa : Addr) (h : Heap), (K w.params).In h → h.Ns mainGlobals mg → mg d.name = some (.ref fa) →
      ∃ fd : FuncData, (∀ (s : Shared) (u : Value), BindsTo s fd ⟨[u], []⟩ [(x, u)]) ∧
        ∀ base : Heap, (K w.params).In base → base.Ns mainGlobals mg → FnOk l.prog w (K w.params) mg base CX k fa fd [x] (sp (K w.params)))
    (hsp : ∀ (K : PySem.W.Frag) (H : Hp) (a : Addr) (ns : List Int), ns.length ≤ n → Only H → SqL K H a (ns.map V.int) → sp K [.ref a] H (fun v _ => v = .bl true) fun _ _ _ => False)
    (hCX : ∀ (H : Hp) (s : Shared) (e : Value) (s' : Shared), CX [] H s (fun _ _ _ => False) e s' → False) :
    PySem.W.WalkO q loose XP YP l.row.toRowW d [] (fun f vs => PySem.call f vs) :=
  walk_of (K := K) (CX := fun _ => CX) (sp := fun w => sp (K w.params)) hn hn2 hdf hr hY F (fun w H a ns h1 h2 h3 => hsp (K w.params) H a ns h1 h2 h3) fun _ H s e s' => hCX H s e s'
end L2



/-! SHORT WORDS over the layer: a def of the text, its body, what a loop and a test want. -/
namespace L2
open PySem PySem.Spec PyProof.Rows

/-! ### the text by places -/
/-- the j-th statement of a class's body -/
def inClass (s : Stmt) (j : Nat) : Stmt := match s with
  | .ClassDef _ _ _ body _ _ _ _ _ _ _ => body.getD j (.Pass ⟨0, 0, 0, 0⟩)
  | _ => .Pass ⟨0, 0, 0, 0⟩
def defArgs (s : Stmt) : Arguments := match s with
  | .FunctionDef _ a _ _ _ _ _ _ _ _ => a
  | _ => { posonlyargs := [], args := [], vararg := none, kwonlyargs := [], kw_defaults := [], kwarg := none, defaults := [] }
def defBody (s : Stmt) : List Stmt := match s with
  | .FunctionDef _ _ b _ _ _ _ _ _ _ => b
  | _ => []
def defScope (s : Stmt) : Scope := match s with
  | .FunctionDef _ _ _ _ _ _ sc _ _ _ => sc
  | _ => { kind := .function, names := [], isGenerator := false, isCoroutine := false }

/-! ### no exception leaves a def -/
abbrev CX0 : CXT := fun _ _ _ _ _ _ => False
abbrev E0 : XK := fun _ _ _ => False
theorem pass0 {X : Cx} : Passes CX0 X E0 := fun _ _ _ _ _ _ _ h => h.elim

/-! ### a def (or method) of the text as it stands behind the top -/
structure Fun (K : PySem.W.Frag) (x qual : Str) (st : Stmt) (f : Addr) (fd : FuncData) : Prop where
  ex : ∃ (oc : Value) (od : Option Addr) (kV doc pm : Value) (an : Option Addr) (cdv ct : Value) (osl : Array (Option Value)),
    fd = PySem.W.fnOf x qual (defArgs st) (defBody st) (defScope st) .none kV doc pm an cdv ct ∧ K.lookup f = some ⟨oc, od, .func fd, osl⟩ ∧ PySem.W.codeIn K cdv qual = true
  kp : PySem.W.keepIn K (.ref f) = true
section
variable {P : Program} {w : World} {K : PySem.W.Frag} {mg : Str → Option Value} {base : Heap}
/-- THE RULE for a def: its body as a term of rules, and the reading of that term -/
theorem Fun.ok {x qual : Str} {st : Stmt} {f : Addr} {fd : FuncData} {N ps : List Str} {k : Nat} {sp : Sp} (F : Fun K x qual st f fd) (S : FnScope N ps (defScope st)) (len : ∀ vs H Q E, sp vs H Q E → vs.length = ps.length)
    (hbody : ∀ (cdv : Value) (A : Around) (outer : List Env) (s : Shared) (H : Hp) (vs : List V) (Q : VK) (E : XK), Room k (A.deeper (envOfC qual (defScope st) s.heap.objs.size f cdv)) → sp vs H Q E →
      ∃ t, PSs (cxOf CX0 P w K mg base N qual (defScope st) f cdv A outer s H E).nox (defBody st) t ∧ t { nx := fun _ H' => Q .non H', rt := Q } (start N vs) H) : FnOk P w K mg base CX0 (k + 1) f fd ps sp := by
  obtain ⟨oc, od, kV, doc, pm, an, cdv, ct, osl, rfl, lk, hcd⟩ := F.ex
  refine fn_of lk hcd S len fun A outer s H vs Q E hr hsp => ?_
  obtain ⟨t, h, q⟩ := hbody cdv A outer s H vs Q E hr hsp
  exact ⟨t, h.nox, q⟩
/-- how its arguments bind (no defaults): h is «fun _ _ _ _ _ _ us hl => match us, hl with | [_, _], _ => rfl», one _ a parameter -/
theorem Fun.binds {x qual : Str} {st : Stmt} {f : Addr} {fd : FuncData} {ps : List Str} (F : Fun K x qual st f fd)
    (h : ∀ (kV doc pm : Value) (an : Option Addr) (cdv ct : Value) (us : List Value), us.length = ps.length → bindArgs (PySem.W.fnOf x qual (defArgs st) (defBody st) (defScope st) .none kV doc pm an cdv ct) ⟨us, []⟩ = pure (ps.zip us)) : Binds K fd ps [] := by
  obtain ⟨oc, od, kV, doc, pm, an, cdv, ct, osl, rfl, lk, hcd⟩ := F.ex
  exact .all (h kV doc pm an cdv ct)
theorem fun_mk {x qual : Str} {st : Stmt} {f : Addr} {oc : Value} {od an : Option Addr} {osl : Array (Option Value)} {kV doc pm cdv ct : Value} (l : K.lookup f = some ⟨oc, od, .func (PySem.W.fnOf x qual (defArgs st) (defBody st) (defScope st) .none kV doc pm an cdv ct), osl⟩)
    (c : PySem.W.codeIn K cdv qual = true) (k : PySem.W.keepIn K (.ref f) = true) : Fun K x qual st f (PySem.W.fnOf x qual (defArgs st) (defBody st) (defScope st) .none kV doc pm an cdv ct) := ⟨⟨oc, od, kV, doc, pm, an, cdv, ct, osl, rfl, l, c⟩, k⟩
end
theorem hu_of {A : Around} {k : Nat} (hr : Room k A) : A.units + 1 < cLine := Nat.lt_of_le_of_lt (Nat.add_le_add_left (by decide : 1 ≤ 64) _) hr.units
theorem small1000 {n : Nat} (h : n ≤ 1000) : n < sizeLine := Nat.lt_of_le_of_lt h (by decide)

/-! ### expressions in short: the name that stands in the i-th slot -/
section
variable {X : Cx}
theorem pv (i : Nat) {x : Str} {pos : Pos} (hN : X.N[i]? = some x := by rfl) (hv : Vis X.env.scope x := by first | exact Or.inl rfl | exact Or.inr (Or.inl rfl) | exact Or.inr (Or.inr rfl)) (hd : (x == ("__debug__" : Str)) = false := by decide)
    (hcd : (x == ("__classdict__" : Str)) = false := by decide) : PE X (.Name x pos) (tVar i) := pe_var hN hv hd hcd
end

/-! ### tests -/
theorem iteF {A B : Prop} (h : B) : if false = true then A else B := by
  rw [if_neg Bool.false_ne_true]
  exact h
theorem iteT {A B : Prop} (h : A) : if true = true then A else B := by
  rw [if_pos rfl]
  exact h
theorem ite2 {c A B : Prop} [Decidable c] (h1 : c → A) (h2 : ¬ c → B) : if c then A else B := by
  by_cases h : c
  · rw [if_pos h]
    exact h1 h
  · rw [if_neg h]
    exact h2 h
theorem iteNS {c A B : Prop} [Decidable c] (hc : c) (h : B) : if (!decide c) = true then A else B := by
  rw [decide_eq_true hc]
  exact iteF h

/-! ### heaps -/
/-- all that was tracked is as it was -/
def Same (H H' : Hp) : Prop := ∀ b o, H b = some o → H' b = some o
theorem Same.refl (H : Hp) : Same H H := fun _ _ h => h
theorem Same.trans {H H1 H2 : Hp} (a : Same H H1) (b : Same H1 H2) : Same H H2 := fun c o h => b c o (a c o h)
theorem Same.free {H H' : Hp} (e : Same H H') {l : Addr} (h : H' l = Option.none) : H l = Option.none := by
  cases q : H l with
  | none => rfl
  | some o =>
    rw [e l o q] at h
    cases h
theorem Same.seq {K : PySem.W.Frag} {H H' : Hp} {a : Addr} {xs : List V} (e : Same H H') (h : SqL K H a xs) : SqL K H' a xs := by
  rcases h with (h | ⟨o, h⟩) | h
  · exact .inl (.inl (e _ _ h))
  · exact .inl (.inr ⟨o, e _ _ h⟩)
  · exact .inr h

end L2

namespace L2
open PySem PySem.Spec PyProof.Rows
/-! ### a dict's pairs: keys that differ -/
section
variable {κ : Type} [DecidableEq κ]
theorem valV_not {kvs : List (κ × V)} {k : κ} (h : valV kvs k = none) : ¬ k ∈ kvs.map (·.1) := by
  intro m
  obtain ⟨p, hp, e⟩ := List.mem_map.mp m
  have q : (kvs.any fun kv => decide (kv.1 = k)) = true := List.any_eq_true.mpr ⟨p, hp, decide_eq_true e⟩
  rw [valV_any, h] at q
  exact absurd q (by simp)
theorem valV_in {kvs : List (κ × V)} {k : κ} {v : V} (h : valV kvs k = some v) : k ∈ kvs.map (·.1) := by
  have q : (kvs.any fun kv => decide (kv.1 = k)) = true := by
    rw [valV_any, h]
    all_goals rfl
  obtain ⟨p, hp, e⟩ := List.any_eq_true.mp q
  exact List.mem_map.mpr ⟨p, hp, of_decide_eq_true e⟩
theorem nd_snoc : ∀ {l : List κ} {k : κ}, l.Nodup → ¬ k ∈ l → (l ++ [k]).Nodup
  | [], k, _, _ => by simp
  | a :: r, k, h, hk => by
    obtain ⟨h1, h2⟩ := List.nodup_cons.mp h
    show (a :: (r ++ [k])).Nodup
    refine List.nodup_cons.mpr ⟨fun m => ?_, nd_snoc h2 fun m => hk (List.mem_cons.mpr (Or.inr m))⟩
    rcases List.mem_append.mp m with q | q
    · exact h1 q
    · exact hk (List.mem_cons.mpr (Or.inl (List.mem_singleton.mp q).symm))
theorem nd_putK {kvs : List (κ × V)} {k : κ} (v : V) (hn : (kvs.map (·.1)).Nodup) (h : valV kvs k = none) : ((putK kvs k v).map (·.1)).Nodup := by
  rw [putK_new v h, List.map_append]
  exact nd_snoc hn (valV_not h)
theorem dropK_pos {p : κ × V} {r : List (κ × V)} {k : κ} (e : p.1 = k) : dropK (p :: r) k = dropK r k := by
  unfold dropK
  rw [List.filter_cons, if_neg (by simp [e])]
theorem dropK_neg {p : κ × V} {r : List (κ × V)} {k : κ} (e : ¬ p.1 = k) : dropK (p :: r) k = p :: dropK r k := by
  unfold dropK
  rw [List.filter_cons, if_pos (by simp [e])]
theorem dropK_no : ∀ {kvs : List (κ × V)} {k : κ}, ¬ k ∈ kvs.map (·.1) → dropK kvs k = kvs
  | [], _, _ => rfl
  | p :: r, k, h => by
    have h' : ¬ k ∈ r.map (·.1) := fun m => by
      obtain ⟨q, hq, e⟩ := List.mem_map.mp m
      exact h (List.mem_map.mpr ⟨q, List.mem_cons.mpr (Or.inr hq), e⟩)
    rw [dropK_neg fun e => h (List.mem_map.mpr ⟨p, List.mem_cons.mpr (Or.inl rfl), e⟩), dropK_no h']
theorem dropK_mem {kvs : List (κ × V)} {k : κ} {p : κ × V} (h : p ∈ dropK kvs k) : p ∈ kvs := (List.mem_filter.mp h).1
theorem nd_dropK : ∀ {kvs : List (κ × V)} {k : κ}, (kvs.map (·.1)).Nodup → ((dropK kvs k).map (·.1)).Nodup
  | [], _, _ => List.nodup_nil
  | p :: r, k, h => by
    have h : (p.1 :: r.map (·.1)).Nodup := h
    obtain ⟨h1, h2⟩ := List.nodup_cons.mp h
    by_cases e : p.1 = k
    · rw [dropK_pos e]
      exact nd_dropK h2
    · rw [dropK_neg e]
      show (p.1 :: (dropK r k).map (·.1)).Nodup
      refine List.nodup_cons.mpr ⟨fun m => h1 ?_, nd_dropK h2⟩
      obtain ⟨q, hq, eq⟩ := List.mem_map.mp m
      exact List.mem_map.mpr ⟨q, dropK_mem hq, eq⟩
theorem dropK_len : ∀ {kvs : List (κ × V)} {k : κ}, (kvs.map (·.1)).Nodup → k ∈ kvs.map (·.1) → (dropK kvs k).length + 1 = kvs.length
  | [], _, _, m => by simp at m
  | p :: r, k, h, m => by
    have h : (p.1 :: r.map (·.1)).Nodup := h
    have m : k = p.1 ∨ k ∈ r.map (·.1) := List.mem_cons.mp m
    obtain ⟨h1, h2⟩ := List.nodup_cons.mp h
    by_cases e : p.1 = k
    · subst e
      rw [dropK_pos rfl, dropK_no h1]
      all_goals rfl
    · have m' : k ∈ r.map (·.1) := m.resolve_left fun z => e z.symm
      have q := dropK_len h2 m'
      rw [dropK_neg e, List.length_cons, List.length_cons]
      omega
end
end L2

namespace L2
open PySem PySem.Spec PyProof.Rows
section
variable {X : Cx}
theorem call_lenD : CallR X (.builtin "len") (fun xs H Q => ∃ a kvs, xs = [V.ref a] ∧ H a = some (.dK kvs) ∧ Q (.int kvs.length) H) := by
  intro pins s σ H xs us Q I r h
  obtain ⟨a, kvs, rfl, ha, q⟩ := h
  obtain ⟨u, rfl, ru⟩ := vals1 r
  cases ru
  exact d_len I (.inl ha) fun t s' I' => ⟨.int kvs.length, H, I', ⟨t, rfl⟩, q⟩
end
end L2
set_option Elab.async false
set_option linter.all false
set_option maxRecDepth 100000
set_option maxHeartbeats 4000000
namespace L2
open PySem PySem.Spec PyProof.Rows

/-! ### list comprehensions of one clause -/
theorem compLoop_gen {prog : Program} {w : World} {A : Around} {R : Result → Shared → Prop} {s : Shared} {elt target iter : Expr} {ifs : List Expr} {scope : Scope} {pos : Pos} {it acc : Value} {env : Env} (I : Nat → Shared → Prop)
    (turn : ∀ n s, I n s → wpAny (model prog w) A (pyNext it) (fun r s₁ => match r with
      | none => R (.ok .next) s₁
      | some v => wpAny (model prog w) A (letOwnedTupleGo target it v) (fun _ s₁' => wpAny (model prog w) A (assign target env v) (fun _ s₂ =>
          wpAny (model prog w) A (forIn ifs true fun c r => if r = true then do let ok ← isTrue c env (eval c env); pure (ForInStep.yield ok) else pure (ForInStep.yield r)) (fun ok s₃ =>
            if ok = true then wpAny (model prog w) A (eval elt env) (fun x s₄ =>
              wpAny (model prog w) A (call (.builtin "list.append") [acc, x]) (fun _ s₅ => ∃ m, m < n ∧ I m s₅) (fun _ _ => False) s₄) (fun _ _ => False) s₃
            else ∃ m, m < n ∧ I m s₃) (fun _ _ => False) s₂) (fun _ _ => False) s₁') (fun _ _ => False) s₁) (fun _ _ => False) s)
    (n : Nat) (h : I n s) : codeAny (model prog w) A (.compLoop (.ListComp elt [⟨target, iter, ifs, 0⟩] scope pos) 0 it acc env) R s := by
  refine codeAny_loop rfl I (fun n s hI => ?_) n h
  show wpAny _ A ((compTurn (.ListComp elt [⟨target, iter, ifs, 0⟩] scope pos) 0 it acc env).onRaise (fun x => do noteFrame x env; theTreesLotGoes x)) _ _ s
  refine wpAny_noted ?_
  rw [compTurn_list]
  refine wpAny_bind (wpAny_standAt (wpAny_bind (wpAny_mono (turn n s hI) (fun r s₁ h₁ => ?_) fun _ _ h' => h'.elim)))
  cases r with
  | none => exact wpAny_pure h₁
  | some v =>
    refine wpAny_bind (wpAny_mono h₁ (fun _ s₁' h₁' => ?_) fun _ _ h' => h'.elim)
    refine wpAny_bind (wpAny_mono h₁' (fun _ s₂ h₂ => wpAny_bind (wpAny_mono h₂ (fun ok s₃ h₃ => ?_) fun _ _ h' => h'.elim)) fun _ _ h' => h'.elim)
    cases ok with
    | false => exact wpAny_pure ⟨rfl, h₃⟩
    | true =>
      exact wpAny_bind (wpAny_bind (wpAny_mono h₃ (fun x s₄ h₄ => wpAny_bind (wpAny_mono h₄ (fun _ s₅ h₅ => wpAny_pure (wpAny_pure ⟨rfl, h₅⟩)) fun _ _ h' => h'.elim)) fun _ _ h' => h'.elim))

/-- the tests of a clause -/
def PTs (X : Cx) (ifs : List Expr) (t : TT) : Prop :=
  ∀ (pins : List (Addr × Obj)) (s : Shared) (σ : St) (H : Hp) (Q : Bool → Hp → Prop), Inv X pins σ H s → t σ H Q →
    wpAny (model X.prog X.w) X.A (forIn ifs true fun c r => if r = true then do let ok ← isTrue c X.env (eval c X.env); pure (ForInStep.yield ok) else pure (ForInStep.yield r)) (TP X pins σ Q) X.xe s
def tYes : TT := fun _ H Q => Q true H
theorem tyes {σ : St} {H : Hp} {A B : Hp → Prop} (h : A H) : tYes σ H (fun b H3 => if b = true then A H3 else B H3) := by
  show (if true = true then A H else B H)
  exact iteT h
theorem pts_nil {X : Cx} : PTs X [] tYes := fun _ _ _ H _ I h => wpAny_tests_nil ⟨H, I, h⟩
theorem pts_one {X : Cx} {c : Expr} {t : TT} (h : PT X c t) : PTs X [c] t := fun pins s σ H Q I q => wpAny_tests_one (h pins s σ H Q I q)

/-- the cells that a block takes along -/
def clOf (cells : List (Str × Addr)) : List (Str × NameKind) → List (Str × Addr) → List (Str × Addr)
  | [], acc => acc
  | (n, k) :: r, acc => if (k == .free) = true then (match cells.lookup n with | some c => clOf cells r ((n, c) :: acc) | none => clOf cells r acc) else clOf cells r acc

theorem clOf_sub {cells : List (Str × Addr)} {x : Str} {c : Addr} : ∀ (names : List (Str × NameKind)) (acc : List (Str × Addr)), (clOf cells names acc).lookup x = some c → acc.lookup x = some c ∨ cells.lookup x = some c
  | [], acc, h => .inl h
  | (n, k) :: r, acc, h => by
    unfold clOf at h
    split at h
    · cases hc : cells.lookup n with
      | none => rw [hc] at h; exact clOf_sub r acc h
      | some c' =>
        rw [hc] at h
        rcases clOf_sub r _ h with q | q
        · rw [List.lookup_cons] at q
          cases hx : x == n with
          | true =>
            rw [hx] at q
            have e : x = n := by simpa using hx
            have e2 : c' = c := by simpa using q
            rw [e, hc, e2]
            exact .inr rfl
          | false => rw [hx] at q; exact .inl q
        · exact .inr q
    · exact clOf_sub r acc h

theorem clOf_acc {cells : List (Str × Addr)} {x : Str} : ∀ (names : List (Str × NameKind)) (acc : List (Str × Addr)), (∃ c, acc.lookup x = some c) → ∃ c, (clOf cells names acc).lookup x = some c
  | [], acc, h => h
  | (n, k) :: r, acc, h => by
    unfold clOf
    split
    · cases hc : cells.lookup n with
      | none => exact clOf_acc r acc h
      | some c' =>
        refine clOf_acc r _ ?_
        rw [List.lookup_cons]
        cases hx : x == n with
        | true => exact ⟨c', rfl⟩
        | false => exact h
    · exact clOf_acc r acc h
theorem clOf_has {cells : List (Str × Addr)} {x : Str} (hx : ∃ c, cells.lookup x = some c) : ∀ (names : List (Str × NameKind)) (acc : List (Str × Addr)), (x, NameKind.free) ∈ names → ∃ c, (clOf cells names acc).lookup x = some c
  | [], acc, h => by simp at h
  | (n, k) :: r, acc, h => by
    rcases List.mem_cons.mp h with e | h
    · cases e
      obtain ⟨c, hc⟩ := hx
      unfold clOf
      rw [if_pos (by rfl), hc]
      exact clOf_acc r _ ⟨c, by rw [List.lookup_cons]; simp⟩
    · unfold clOf
      split
      · cases hc : cells.lookup n with
        | none => exact clOf_has hx r acc h
        | some c' => exact clOf_has hx r _ h
      · exact clOf_has hx r acc h

theorem closure_go {env : Env} : ∀ (names : List (Str × NameKind)) (acc : List (Str × Addr)), (∀ y ∈ names, y.2 = .free → ∃ c, env.cells.lookup y.1 = some c) →
    (forIn names acc fun (x : Str × NameKind) (cs : List (Str × Addr)) => (if (x.2 == .free) = true then (do let a ← cellOf env x.1; pure (ForInStep.yield ((x.1, a) :: cs))) else pure (ForInStep.yield cs) : Sem (ForInStep (List (Str × Addr))))) = pure (clOf env.cells names acc)
  | [], acc, _ => rfl
  | (n, k) :: r, acc, h => by
    rw [List.forIn_cons]
    have hr : ∀ y ∈ r, y.2 = .free → ∃ c, env.cells.lookup y.1 = some c := fun y hy => h y (List.mem_cons_of_mem _ hy)
    unfold clOf
    cases hk : (k == NameKind.free) with
    | true =>
      obtain ⟨c, hc⟩ := h (n, k) List.mem_cons_self (by simpa using hk)
      simp only [hk, if_true, cellOf, hc, pure_bind]
      exact closure_go r _ hr
    | false =>
      simp only [hk, Bool.false_eq_true, if_false, pure_bind]
      exact closure_go r _ hr
theorem closureFor_eq {scope : Scope} {env : Env} (h : ∀ y ∈ scope.names, y.2 = .free → ∃ c, env.cells.lookup y.1 = some c) : closureFor scope env = pure (clOf env.cells scope.names []) := by
  have e := closure_go scope.names [] h
  simp only [closureFor]
  simp only [bind_pure]
  exact e

theorem lookup_relabel {env : Env} {x : Str} : ∀ (names : List (Str × NameKind)),
    (names.map fun (n, k) => if (k == NameKind.free && env.scope.kind == .function && env.kindOf n == some .cell) then (n, NameKind.cell) else (n, k)).lookup x =
      (names.lookup x).map fun k => if (k == NameKind.free && env.scope.kind == .function && env.kindOf x == some .cell) = true then NameKind.cell else k
  | [] => rfl
  | (n, k) :: r => by
    have ih := lookup_relabel (env := env) (x := x) r
    rw [List.map_cons]
    show List.lookup x ((if (k == NameKind.free && env.scope.kind == .function && env.kindOf n == some .cell) = true then (n, NameKind.cell) else (n, k)) :: _) = _
    by_cases c : (k == NameKind.free && env.scope.kind == .function && env.kindOf n == some .cell) = true
    · rw [if_pos c, List.lookup_cons, List.lookup_cons]
      cases hx : x == n with
      | true =>
        have e : x = n := by simpa using hx
        subst e
        show some NameKind.cell = Option.map _ (some k)
        rw [Option.map_some, if_pos c]
      | false => exact ih
    · rw [if_neg c, List.lookup_cons, List.lookup_cons]
      cases hx : x == n with
      | true =>
        have e : x = n := by simpa using hx
        subst e
        show some k = Option.map _ (some k)
        rw [Option.map_some, if_neg c]
      | false => exact ih

/-- the context of a comprehension's block -/
def cxComp (X : Cx) (pl : List (Addr × Obj)) (N' : List Str) (scope : Scope) (fp : List Addr) (s3 : Shared) (H3 : Hp) : Cx where
  prog := X.prog
  w := X.w
  K := X.K
  mg := X.mg
  base := X.base
  A := X.A
  N := N'
  s₀ := s3
  H₀ := H3
  env := compEnvC scope (clOf X.env.cells scope.names []) s3.heap.objs.size X.env
  outer := X.stack
  stack := X.stack
  ex := fp
  fn := fun _ => false
  calm := X.calm
  pn := pl
  xe := fun _ _ => False

/-- the captured names: each stands in the frame outside as a cell -/
def CapOk (X : Cx) (scope : Scope) : List Str → List Nat → Prop
  | [], [] => True
  | x :: cn, j :: ci => X.N[j]? = some x ∧ X.env.kindOf x = some .cell ∧ scope.names.lookup x = some .free ∧ CapOk X scope cn ci
  | _, _ => False
theorem CapOk.get {X : Cx} {scope : Scope} : ∀ {cn : List Str} {ci : List Nat} {k : Nat} {x : Str}, CapOk X scope cn ci → cn[k]? = some x → ∃ j, ci[k]? = some j ∧ X.N[j]? = some x ∧ X.env.kindOf x = some .cell ∧ scope.names.lookup x = some .free
  | [], _, _, _, _, h => by simp at h
  | _ :: _, [], _, _, c, _ => c.elim
  | y :: cn, j :: ci, 0, x, c, h => by
    obtain ⟨a, b, b', _⟩ := c
    have e : y = x := by simpa using h
    subst e
    exact ⟨j, rfl, a, b, b'⟩
  | y :: cn, j :: ci, k + 1, x, c, h => by
    obtain ⟨j', h1, h2⟩ := CapOk.get (k := k) c.2.2.2 (by simpa using h)
    exact ⟨j', by simpa using h1, h2⟩

/-- what the block's text must be -/
structure CompSc (X : Cx) (scope : Scope) : Prop where
  kind : scope.kind = .function
  nocell : ∀ y ∈ scope.names, y.2 ≠ .cell
  names : ∀ y ∈ scope.names, y.2 = .local → scope.names.lookup y.1 = some .local
  free : ∀ y ∈ scope.names, y.2 = .free → X.env.kindOf y.1 = some .cell

section
variable {X : Cx} {pins : List (Addr × Obj)} {σ : St} {H3 : Hp} {s3 : Shared} {scope : Scope} {fp : List Addr} {N' own cn : List Str} {ci : List Nat} {cv : List V}

theorem comp_has (ok : X.Ok) (S : CompSc X scope) {x : Str} (h : (relabel scope X.env).names.lookup x = some .cell ∨ (relabel scope X.env).names.lookup x = some .free) :
    ∃ c, (clOf X.env.cells scope.names []).lookup x = some c := by
  have e : (relabel scope X.env).names.lookup x = (scope.names.lookup x).map fun k => if (k == NameKind.free && X.env.scope.kind == .function && X.env.kindOf x == some .cell) = true then NameKind.cell else k := lookup_relabel scope.names
  have hf : scope.names.lookup x = some .free := by
    cases q : scope.names.lookup x with
    | none => rw [e, q] at h; simp at h
    | some k =>
      by_cases hk : k = .free
      · rw [hk]
      · have hb : (k == NameKind.free) = false := by simpa using hk
        rw [e, q] at h
        simp only [Option.map_some, hb, Bool.false_and, Bool.false_eq_true, if_false, Option.some.injEq] at h
        rcases h with h | h
        · exact absurd h (S.nocell _ (PySem.mem_of_lookup q))
        · exact absurd h hk
  exact clOf_has (ok.has x (.inl (S.free _ (PySem.mem_of_lookup hf) rfl))) scope.names [] (PySem.mem_of_lookup hf)
theorem comp_cl {x : Str} {c : Addr} (h : (clOf X.env.cells scope.names []).lookup x = some c) : X.env.cells.lookup x = some c := by
  rcases clOf_sub _ _ h with q | q
  · simp at q
  · exact q

theorem comp_ok (I : Inv X pins σ H3 s3) (S : CompSc X scope) (f : ∀ b ∈ fp, FpOk X pins H3 b) (fz : ∀ b ∈ fp, b < s3.heap.objs.size) : (cxComp X (X.pn ++ pins) N' scope fp s3 H3).Ok where
  mod := I.ok.mod
  kind := S.kind
  glob := I.ok.glob
  blt := I.ok.blt
  above := Nat.le_refl _
  inj := fun x y c h1 h2 => I.ok.inj x y c (comp_cl h1) (comp_cl h2)
  has := fun x h => comp_has I.ok S h
  cab := fun x c h => by cases h
  hd := I.ok.hd
  frames := I.ok.frames
  stk := .inl rfl
  exf := fun b hb => ⟨Nat.ne_of_lt (fz b hb), fun x c h => (f b hb).2.2.2.2.1 x c (comp_cl h)⟩
  bs := I.bs
  bsz := Nat.le_trans I.ok.bsz I.sz
  noex := fun b o e hb => by
    rcases (f b hb).2.2.2.1 with z | z
    · exact I.ok.noex b o e z
    · exact absurd (Nat.lt_of_lt_of_le (Heap.lt_size e) (Nat.le_trans I.ok.bsz z)) (Nat.lt_irrefl _)
  exfs := fun b hb z => by
    rcases List.mem_cons.mp (I.stkSub b z) with q | q
    · exact (f b hb).2.1 q
    · exact (f b hb).2.2.1 q
  funs := I.stack
  frf := I.stkFree

theorem comp_inv {h1 : Heap} {t : Nat} (I : Inv X pins σ H3 s3) (S : CompSc X scope) (f : ∀ b ∈ fp, FpOk X pins H3 b) (fz : ∀ b ∈ fp, b < s3.heap.objs.size)
    (hN : N' = own ++ cn) (hc : CapOk X scope cn ci) (hv : ci.map (fun j => σ[j]?) = cv.map fun v => some (some v)) (hl : cn.length = ci.length)
    (hns : h1.Ns s3.heap.objs.size (fun _ => none)) (hk : ∀ b o, s3.heap.get? b = some o → h1.get? b = some o) :
    Inv (cxComp X (X.pn ++ pins) N' scope fp s3 H3) [] (List.replicate own.length none ++ cv.map some) H3 { s3 with heap := h1, toks := t } := by
  have lenv : cv.length = ci.length := by
    have := congrArg List.length hv
    simpa using this.symm
  refine ⟨comp_ok I S f fz, rfl, I.bare, Un.kept hk, ⟨_, hns, fun i x v e1 e2 e3 => ?_⟩, fun x c e => ?_, I.hok.fresh (Nat.le_refl _), fun x c e => I.freeC x c (comp_cl e), fun p hp => ?_, I.hok.kept hk, ?_⟩
  · -- a captured name
    have hi : own.length ≤ i := by
      by_cases hi : own.length ≤ i
      · exact hi
      · rw [List.getElem?_append_left (by simpa using hi), List.getElem?_replicate] at e2
        split at e2 <;> cases e2
    rw [List.getElem?_append_right (by simpa using hi), List.length_replicate, List.getElem?_map] at e2
    have e1' : (own ++ cn)[i]? = some x := by rw [← hN]; exact e1
    rw [List.getElem?_append_right hi] at e1'
    obtain ⟨j, hj, hNj, hkx, hfr⟩ := hc.get e1'
    have hcv : cv[i - own.length]? = some v := by
      cases q : cv[i - own.length]? with
      | none => rw [q] at e2; cases e2
      | some v' => rw [q] at e2; cases e2; rfl
    have hσ : σ[j]? = some (some v) := by
      have := congrArg (fun l : List (Option (Option V)) => l[i - own.length]?) hv
      simp only [List.getElem?_map, hj, hcv, Option.map_some, Option.some.injEq] at this
      exact this
    obtain ⟨m, _, hl'⟩ := I.loc
    obtain ⟨u, r, q⟩ := hl' j x v hNj hσ (.inr (.inl hkx))
    have hkd : (relabel scope X.env).names.lookup x = some .cell ∨ (relabel scope X.env).names.lookup x = some .free := by
      have e : (relabel scope X.env).names.lookup x = (scope.names.lookup x).map fun k => if (k == NameKind.free && X.env.scope.kind == .function && X.env.kindOf x == some .cell) = true then NameKind.cell else k := lookup_relabel scope.names
      rw [e, hfr, Option.map_some]
      by_cases cc : (NameKind.free == NameKind.free && X.env.scope.kind == .function && X.env.kindOf x == some .cell) = true
      · rw [if_pos cc]; exact .inl rfl
      · rw [if_neg cc]; exact .inr rfl
    obtain ⟨c', hc'⟩ := comp_has I.ok S hkd
    refine ⟨u, r, .inr ⟨hkd, c', hc', ?_⟩⟩
    rcases q with ⟨z, _⟩ | ⟨_, c, hcc, o, ho, hd⟩
    · rw [hkx] at z; cases z
    · have e : c = c' := Option.some.inj (hcc.symm.trans (comp_cl hc'))
      subst e
      exact ⟨o, hk c o ho, hd⟩
  · obtain ⟨v, o, ho, hd⟩ := I.cell x c (comp_cl e)
    exact ⟨v, o, hk c o ho, hd⟩
  · have hp' : p ∈ X.pn ++ pins := by rw [List.append_nil] at hp; exact hp
    obtain ⟨e, n, ne, nf, d⟩ := I.pin p hp'
    refine ⟨hk _ _ e, n, Nat.ne_of_lt (Heap.lt_size e), fun z => ?_, d⟩
    rcases List.mem_cons.mp (I.stkSub p.1 z) with q | q
    · exact ne q
    · exact nf q
  · show (List.replicate own.length none ++ cv.map some).length = N'.length
    rw [hN, List.length_append, List.length_append, List.length_replicate, List.length_map, lenv, hl]

/-- a reading of [e for target in iter if ..]: own many names of its own, the frame's slots ci taken along; D is the new list. W: the invariant by the turn, a measure, the items so far, the heap (the list in it) -/
def CompRd (J : It) (own : Nat) (cv : List V) (g : TG) (ti : TT) (te : TE) (D : Addr) (H1 : Hp) (Q : VK) : Prop := ∃ W : Nat → Nat → List V → Hp → Prop, (∃ m, W 0 m [] (upd H1 D (.lst []))) ∧ ∀ i m ys H, W i m ys H →
    (J.stop i H ∧ Q (.ref D) H) ∨ (J.go i H ∧ ys.length < sizeLine ∧ ∃ N : List V → Hp → Prop, (∀ ys' H', N ys' H' → ∃ m', m' < m ∧ W (i + 1) m' ys' H') ∧
      ∀ x H', J.yld i H x H' → g x (List.replicate own none ++ cv.map some) H' fun σ2 H2 => (σ2.length = own + cv.length ∧ σ2.drop own = cv.map some) ∧
        ti σ2 H2 fun b H3 => if b = true then te σ2 H3 fun y H4 => H4 D = some (.lst ys) ∧ N (ys ++ [y]) (upd H4 D (.lst (ys ++ [y]))) else N ys H3)
def tComp (own : Nat) (ci : List Nat) (wi : TI) (g : TG) (ti : TT) (te : TE) : TE := fun σ H Q => wi σ H fun J H1 => ∃ cv : List V, ci.map (fun j => σ[j]?) = cv.map (fun v => some (some v)) ∧
  ∀ D, H1 D = none → CompRd J own cv g ti te D H1 Q

theorem comp_core {elt target iter : Expr} {ifs : List Expr} {pos cpos : Pos} {wi : TI} {g : TG} {ti : TT} {te : TE} {use : Option (Value → Sem Unit)} {Q0 : Value → Shared → Prop} {s : Shared} {H : Hp} {Q : VK} (hcalm : X.calm = true) (S : CompSc X scope) (hc : CapOk X scope cn ci) (hl : cn.length = ci.length)
    (hi : PI X target iter wi) (hg : ∀ pl fp s3 H3, PG (cxComp X pl (own ++ cn) scope fp s3 H3) target g) (ht : ∀ pl fp s3 H3, PTs (cxComp X pl (own ++ cn) scope fp s3 H3) ifs ti)
    (he : ∀ pl fp s3 H3, PE (cxComp X pl (own ++ cn) scope fp s3 H3) elt te) (hs : ∀ x, foldedSetIterable iter X.env x = pure x) (I : Inv X pins σ H s) (h : tComp own.length ci wi g ti te σ H Q)
    (fin : ∀ (D C : Addr) (H5 : Hp) (s6 : Shared) (m6 : Str → Option Value), Inv X pins σ H5 s6 → s6.heap.Ns C m6 → H5 C = none → C ≠ X.env.locals → X.s₀.heap.objs.size ≤ C → (∀ x c, X.env.cells.lookup x = some c → c ≠ C) →
      (∀ p ∈ X.pn ++ pins, p.1 ≠ C) → Q (.ref D) H5 → compPost (model X.prog X.w) X.A X.xe use Q0 (.ref D) C (.ok .next) s6) :
    wpAny (model X.prog X.w) X.A (comprehension (.ListComp elt [⟨target, iter, ifs, 0⟩] scope pos) scope X.env cpos (newList []) false (eval iter X.env) use) Q0 X.xe s := by
  have hcl : closureFor scope X.env = pure (clOf X.env.cells scope.names []) := closureFor_eq fun y hy hf => I.ok.has y.1 (.inl (S.free y hy hf))
  refine wpAny_comprehension_free (use := use) rfl hs hcl S.kind S.names ?_
  refine thn (hi pins s σ H _ I h) fun v s1 h1 => thn h1 fun itv s2 h2 => ?_
  obtain ⟨it, fp, tn, J, H2, e, I2, T, st2, f2, cv, hv, hD⟩ := h2
  subst e
  have lenv : cv.length = ci.length := by
    have := congrArg List.length hv
    simpa using this.symm
  -- the new list, the block's frame
  have I3 := I2.lnew (ys := []) (its := []) (t' := s2.toks) .nil (Nat.zero_le _)
  obtain ⟨W, ⟨m0, w0⟩, turn⟩ := hD s2.heap.objs.size I2.fresh
  have fz : ∀ b ∈ fp, b < s2.heap.objs.size := fun b hb => by
    obtain ⟨o, ho, _⟩ := T.obj _ _ st2 b hb
    exact Heap.lt_size ho
  refine wpAny_newObj_type ?_
  refine wpAny_newFunctionEnv S.nocell (by intro y hy; simp at hy) (fun h4 hns4 hsb4 => ?_) S.kind
  generalize hs3 : ({ s2 with heap := s2.heap.push { cls := .type "list", dict := none, data := .seq ([] : List Value).toArray } } : Shared) = s3 at hns4 hsb4 ⊢
  have I3' : Inv X pins σ (upd H2 s2.heap.objs.size (.lst [])) s3 := by rw [← hs3]; exact I3
  have hsz3 : s3.heap.objs.size = s2.heap.objs.size + 1 := by rw [← hs3]; exact Heap.size_push ..
  have k23 : ∀ b o, s2.heap.get? b = some o → s3.heap.get? b = some o := fun b o e => by rw [← hs3]; exact Heap.get?_push_of_some _ e
  have k34 : ∀ b o, s3.heap.get? b = some o → h4.get? b = some o := fun b o e => hsb4.extBut b o (Nat.ne_of_lt (Heap.lt_size e)) (Heap.get?_push_of_some _ e)
  have nD : ∀ b ∈ fp, b ≠ s2.heap.objs.size := fun b hb => Nat.ne_of_lt (fz b hb)
  have f3 : ∀ b ∈ fp, FpOk X pins (upd H2 s2.heap.objs.size (.lst [])) b := fun b hb => ⟨by rw [upd_ne (nD b hb)]; exact (f2 b hb).1, (f2 b hb).2⟩
  have fz3 : ∀ b ∈ fp, b < s3.heap.objs.size := fun b hb => by rw [hsz3]; exact Nat.lt_succ_of_lt (fz b hb)
  have I4 : Inv (cxComp X (X.pn ++ pins) (own ++ cn) scope fp s3 (upd H2 s2.heap.objs.size (.lst []))) [] (List.replicate own.length none ++ cv.map some) (upd H2 s2.heap.objs.size (.lst [])) { s3 with heap := h4, toks := s3.toks + ([] : List (Str × Value)).length } :=
    comp_inv I3' S f3 fz3 rfl hc hv hl hns4 k34
  have st4 : tn 0 h4 := T.keep _ _ _ st2 fun b hb o e => k34 b o (k23 b o e)
  generalize hX : cxComp X (X.pn ++ pins) (own ++ cn) scope fp s3 (upd H2 s2.heap.objs.size (.lst [])) = X' at I4
  have hg' : PG X' target g := by rw [← hX]; exact hg _ _ _ _
  have ht' : PTs X' ifs ti := by rw [← hX]; exact ht _ _ _ _
  have he' : PE X' elt te := by rw [← hX]; exact he _ _ _ _
  have ePr : X'.prog = X.prog := by rw [← hX]; rfl
  have eW : X'.w = X.w := by rw [← hX]; rfl
  have eK : X'.K = X.K := by rw [← hX]; rfl
  have eA : X'.A = X.A := by rw [← hX]; rfl
  have eE : X'.env = compEnvC scope (clOf X.env.cells scope.names []) s3.heap.objs.size X.env := by rw [← hX]; rfl
  have eXe : X'.xe = fun _ _ => False := by rw [← hX]; rfl
  have eC : X'.calm = true := by rw [← hX]; exact hcalm
  have eex : X'.ex = fp := by rw [← hX]; rfl
  have epn : X'.pn = X.pn ++ pins := by rw [← hX]; rfl
  have es0 : X'.s₀ = s3 := by rw [← hX]; rfl
  have eH0 : X'.H₀ = upd H2 s2.heap.objs.size (.lst []) := by rw [← hX]; rfl
  have efs : X'.fs = frs X.stack := by rw [← hX]; rfl
  have ok' := I4.ok
  have stat : ∀ {H' : Hp}, (∀ b ∈ fp, H' b = none) → ∀ b ∈ fp, FpOk X' [] H' b := fun hn b hb => by
    have hb' : b ∈ X'.ex := by rw [eex]; exact hb
    refine ⟨hn b hb, (ok'.exf b hb').1, ok'.exfs b hb', .inl hb', (ok'.exf b hb').2, fun p hp => ?_⟩
    rw [epn, List.append_nil] at hp
    exact (f2 b hb).2.2.2.2.2 p hp
  have wk : ∀ (σ2 : St), (σ2.length = own.length + cv.length ∧ σ2.drop own.length = cv.map some) → ∀ {pl : List (Addr × Obj)} {H' : Hp} {s' : Shared}, Inv X' pl σ2 H' s' → Inv X' pl (List.replicate own.length none ++ cv.map some) H' s' := fun σ2 hq pl H' s' I' => by
    refine I'.weak (by rw [hq.1, List.length_append, List.length_replicate, List.length_map]) fun i v hi => ?_
    by_cases hlt : i < own.length
    · rw [List.getElem?_append_left (by simpa using hlt), List.getElem?_replicate] at hi
      split at hi <;> cases hi
    · rw [List.getElem?_append_right (by simpa using hlt), List.length_replicate, ← hq.2, List.getElem?_drop] at hi
      rw [show own.length + (i - own.length) = i by omega] at hi
      exact hi
  -- the loop
  have loop : codeAny (model X.prog X.w) X.A (.compLoop (.ListComp elt [⟨target, iter, ifs, 0⟩] scope pos) 0 (.ref it) (.ref s2.heap.objs.size) (compEnvC scope (clOf X.env.cells scope.names []) s3.heap.objs.size X.env))
      (compPost (model X.prog X.w) X.A X.xe use Q0 (.ref s2.heap.objs.size) s3.heap.objs.size) { s3 with heap := h4, toks := s3.toks + ([] : List (Str × Value)).length } := by
    refine compLoop_gen (fun n s' => ∃ i ys H', Inv X' [] (List.replicate own.length none ++ cv.map some) H' s' ∧ tn i s'.heap ∧ (∀ b ∈ fp, H' b = none) ∧ W i n ys H') ?_ m0
      ⟨0, [], _, I4, st4, fun b hb => (f3 b hb).1, w0⟩
    rintro n s5 ⟨i, ys, H5, I5, st5, fr5, w5⟩
    rcases turn i n ys H5 w5 with ⟨stop, qn⟩ | ⟨go, hsz, N, hN, step⟩
    · have d := T.done X' ePr eW eK eC i [] s5 _ H5 (fun _ _ => False) I5 (stat fr5) st5 stop
      rw [eA] at d
      refine thn d fun r s6 ⟨hr, I6⟩ => ?_
      subst hr
      -- back to the frame outside
      obtain ⟨m6, hn6, _⟩ := I6.loc
      rw [eE] at hn6
      have hn6' : s6.heap.Ns s3.heap.objs.size m6 := hn6
      have un6 : Un (frs X.stack) fp (upd H2 s2.heap.objs.size (.lst [])) H5 s3.heap s6.heap := by
        have b6 := I6.base
        rw [efs, eex, eH0, es0] at b6
        exact b6
      have os6 : s6.os = s3.os := by have o6 := I6.os; rw [es0] at o6; exact o6
      have hok6 : HOk X.prog X.w H5 s6.heap := by have o6 := I6.hok; rw [ePr, eW] at o6; exact o6
      have I7 : Inv X pins σ H5 s6 := I3'.call' (ch := fp) os6 un6 hok6 I6.bare fun b hb => ⟨(f2 b hb).2.2.2.1, (f2 b hb).2.1, (f2 b hb).2.2.2.2.1, (f2 b hb).2.2.2.2.2⟩
      have fr6 : H5 s3.heap.objs.size = none := by
        have q := I6.free
        rw [eE] at q
        exact q
      refine fin s2.heap.objs.size s3.heap.objs.size H5 s6 m6 I7 hn6' fr6 (Nat.ne_of_gt I3'.lt) I3'.sz (fun x c e => ?_) (fun p hp => ?_) qn
      · obtain ⟨_, o, ho, _⟩ := I3'.cell x c e
        exact Nat.ne_of_lt (Heap.lt_size ho)
      · exact Nat.ne_of_lt (Heap.lt_size (I3'.pin p hp).1)
    · have d := T.item X' ePr eW eK eC i [] s5 _ H5 (fun _ _ => False) I5 (stat fr5) st5 go
      rw [eA] at d
      refine thn d fun r s6 ⟨u, hr, h6⟩ => ?_
      subst hr
      refine thn h6 fun _ s7 ⟨x, H7, I7, r7, y7, st7, fr7⟩ => ?_
      have I7' := I7.pinned (stat fr7) (T.obj _ _ st7)
      have g7 := hg' _ s7 _ H7 x u _ I7' r7 (step x H7 y7)
      rw [ePr, eW, eA, eE, eXe] at g7
      refine thn g7 fun _ s8 ⟨σ8, H8, I8, q8, ti8⟩ => ?_
      have t8 := ht' _ s8 σ8 H8 _ I8 ti8
      rw [ePr, eW, eA, eE, eXe] at t8
      refine thn t8 fun ok s9 ⟨H9, I9, q9⟩ => ?_
      have again : ∀ {ys' : List V} {H' : Hp} {s' : Shared}, Inv X' ([] ++ pinsAt fp s7.heap) σ8 H' s' → N ys' H' →
          ∃ m, m < n ∧ ∃ i ys H', Inv X' [] (List.replicate own.length none ++ cv.map some) H' s' ∧ tn i s'.heap ∧ (∀ b ∈ fp, H' b = none) ∧ W i m ys H' := fun {ys' H' s'} I' n' => by
        obtain ⟨m', hm, w'⟩ := hN ys' H' n'
        refine ⟨m', hm, i + 1, ys', H', (wk σ8 q8 I').unpinned, T.keep _ _ _ st7 fun b hb o e => (I'.pin (b, o) (List.mem_append_right _ (List.mem_append_right _ (mem_pinsAt hb e)))).1, fun b hb => ?_, w'⟩
        obtain ⟨o, e, _⟩ := T.obj _ _ st7 b hb
        exact (I'.pin (b, o) (List.mem_append_right _ (List.mem_append_right _ (mem_pinsAt hb e)))).2.1
      cases ok with
      | false => exact again I9 q9
      | true =>
        have e9 := he' _ s9 σ8 H9 _ I9 q9
        rw [ePr, eW, eA, eE, eXe] at e9
        refine thn e9 fun u10 s10 ⟨y, H10, I10, r10, hD10, n10⟩ => ?_
        have a10 := mt_append (X := X') _ s10 σ8 H10 (.ref s2.heap.objs.size) [y] (.ref s2.heap.objs.size) [u10] (fun _ H' => N (ys ++ [y]) H') I10 rfl (.cons r10 .nil) ⟨_, _, _, rfl, rfl, hD10, hsz, n10⟩
        rw [ePr, eW, eA, eXe] at a10
        exact thn a10 fun _ s11 ⟨_, H11, I11, _, n11⟩ => again I11 n11
  exact codeAny_compStart_list loop (T.self X.A 0 _ _ _ st4 loop)
theorem pe_comp {elt target iter : Expr} {ifs : List Expr} {pos : Pos} {wi : TI} {g : TG} {ti : TT} {te : TE} (hcalm : X.calm = true) (S : CompSc X scope) (hc : CapOk X scope cn ci) (hl : cn.length = ci.length)
    (hi : PI X target iter wi) (hg : ∀ pl fp s3 H3, PG (cxComp X pl (own ++ cn) scope fp s3 H3) target g) (ht : ∀ pl fp s3 H3, PTs (cxComp X pl (own ++ cn) scope fp s3 H3) ifs ti)
    (he : ∀ pl fp s3 H3, PE (cxComp X pl (own ++ cn) scope fp s3 H3) elt te) (hs : ∀ x, foldedSetIterable iter X.env x = pure x := by intro _; rfl) :
    PE X (.ListComp elt [⟨target, iter, ifs, 0⟩] scope pos) (tComp own.length ci wi g ti te) := by
  intro pins s σ H Q I h
  rw [eval_ListComp]
  exact comp_core hcalm S hc hl hi hg ht he hs I h fun D C H5 s6 m6 I7 hn fr nL ge nC nP q => ⟨m6, hn, fun h' hs' => ⟨.ref D, H5, I7.turned (t' := s6.toks) (it := C) (fun b o hb e => hs'.extBut b o hb e) fr nL (.inr ge) nC nP, rfl, q⟩⟩
/-- name = [.. for ..], the name a local one on the same row: it is stored ahead of the block's end -/
theorem ps_setC {elt target iter : Expr} {ifs : List Expr} {pos pos' cpos : Pos} {wi : TI} {g : TG} {ti : TT} {te : TE} {i : Nat} {x : Str} (hN : X.N.Nodup) (hix : X.N[i]? = some x) (hx : Loc X.env.scope x) (hcalm : X.calm = true) (S : CompSc X scope) (hc : CapOk X scope cn ci) (hl : cn.length = ci.length)
    (hi : PI X target iter wi) (hg : ∀ pl fp s3 H3, PG (cxComp X pl (own ++ cn) scope fp s3 H3) target g) (ht : ∀ pl fp s3 H3, PTs (cxComp X pl (own ++ cn) scope fp s3 H3) ifs ti)
    (he : ∀ pl fp s3 H3, PE (cxComp X pl (own ++ cn) scope fp s3 H3) elt te) (hs : ∀ x, foldedSetIterable iter X.env x = pure x := by intro _; rfl)
    (hsw : swapsWith (.ListComp elt [⟨target, iter, ifs, 0⟩] scope cpos) (some (.Name x pos')) pos.line X.env = pure true := by rfl)
    (hf : X.fn x = true ∨ X.env.scope.names.lookup x = some .local := by first | exact .inl rfl | exact .inr rfl | assumption) :
    PS X (.Assign [.Name x pos'] (.ListComp elt [⟨target, iter, ifs, 0⟩] scope cpos) pos) (tAsg (tComp own.length ci wi g ti te) (gName i)) := by
  intro pins s σ H D I h
  rw [exec_Assign_Name_used _ _ _ _ hsw]
  refine wpAny_bind (wpAny_standAt (wpAny_bind ?_))
  show wpAny _ X.A (do let _ ← comprehension (.ListComp elt [⟨target, iter, ifs, 0⟩] scope cpos) scope X.env _ (newList []) false (eval iter X.env) (some (assign (.Name x pos') X.env))) _ _ s
  refine wpAny_bind (wpAny_mono (comp_core (use := some (assign (.Name x pos') X.env)) (Q0 := fun _ s' => SP X pins D .next s') hcalm S hc hl hi hg ht he hs I h (fun D' C H5 s6 m6 I7 hn fr nL ge nC nP q => ?_)) (fun _ s' hq => wpAny_pure (wpAny_pure hq)) fun _ _ e => e)
  obtain ⟨oC, es, ep, hoC, hd, r1⟩ := hn
  have nf : C ∉ X.fs := fun hb => by
    obtain ⟨_, o, ho, _⟩ := I7.ok.funs.mem hb
    exact absurd (Nat.lt_of_lt_of_le (Heap.lt_size ho) ge) (Nat.lt_irrefl _)
  have I7' : Inv X (pins ++ [(C, oC)]) σ H5 s6 := I7.pins_of fun p hp => by
    rcases List.mem_append.mp hp with z | z
    · exact I7.pin p (List.mem_append_right _ z)
    · rw [List.mem_singleton.mp z]
      exact ⟨hoC, fr, nL, nf, fun v e => by rw [hd] at e; cases e⟩
  show wpAny _ X.A (assign (.Name x pos') X.env (.ref D')) _ _ s6
  refine wpAny_assign_Name (store_ok I7' hN hix hx (show RelV (.ref D') (.ref D') from rfl) (fun s' I' => ?_) hf)
  have hC' := (I'.pin (C, oC) (List.mem_append_right _ (List.mem_append_right _ (List.mem_singleton.mpr rfl)))).1
  refine ⟨m6, ⟨oC, es, ep, hC', hd, r1⟩, fun h' hs' => ⟨_, H5, ?_, q⟩⟩
  have I2 : Inv X pins (σ.set i (some (.ref D'))) H5 s' := I'.pins_of fun p hp => I'.pin p (List.mem_append_right _ (List.mem_append_left _ hp))
  exact I2.turned (t' := s'.toks) (it := C) (fun b o hb e => hs'.extBut b o hb e) fr nL (.inr ge) nC nP
end
/-! ### within a block -/
def cscOk (outer inner : Scope) : Bool := inner.names.all fun y => (y.2 != .cell) && (y.2 != .local || inner.names.lookup y.1 == some .local) && (y.2 != .free || outer.names.lookup y.1 == some .cell)
theorem csc {X : Cx} {scope : Scope} (hk : scope.kind = .function) (h : cscOk X.env.scope scope = true) : CompSc X scope := by
  have a := List.all_eq_true.mp h
  refine ⟨hk, fun y hy e => ?_, fun y hy e => ?_, fun y hy e => ?_⟩
  · have := a y hy
    rw [e] at this
    simp at this
  · have := a y hy
    rw [e] at this
    simpa using this
  · have := a y hy
    rw [e] at this
    have h2 : X.env.scope.names.lookup y.1 = some .cell := by simpa using this
    exact h2
theorem nd_of {l : List Str} (h : decide l.Nodup = true) : l.Nodup := of_decide_eq_true h
section
variable {X : Cx} {pl : List (Addr × Obj)} {N' : List Str} {sc : Scope} {fp : List Addr} {s3 : Shared} {H3 : Hp}
theorem ix_tupC : IxR (cxComp X pl N' sc fp s3 H3) (rIxT X.K) := ix_tup
theorem ix_listC : IxR (cxComp X pl N' sc fp s3 H3) (rIxL X.K) := ix_list
theorem pg_tupC {es : List Expr} {k : Nat} {t : TGs} {n : Nat} {pos : Pos} (hc : X.calm = true) (h : PGs (cxComp X pl N' sc fp s3 H3) es t)
    (hn : (assignEach es (cxComp X pl N' sc fp s3 H3).env).length = n := by rfl) (hst : (assignEach es (cxComp X pl N' sc fp s3 H3).env).findIdx? (·.1) = none := by rfl) : PG (cxComp X pl N' sc fp s3 H3) (.Tuple es k pos) (gTup X.K n t) := pg_tup hc h hn hst
theorem op_notInC : OpR (cxComp X pl N' sc fp s3 H3) (compareOp .NotIn) (rIn X.K true) := op_notIn_seq
end
/-! ### the forms one uses -/
theorem comp_list {K : PySem.W.Frag} {a : Addr} {xs : List V} {own : Nat} {g : TG} {ti : TT} {te : TE} {cv : List V} {D : Addr} {H1 : Hp} {Q : VK} (Pv : Nat → List V → Hp → Prop) (h0 : Pv 0 [] (upd H1 D (.lst []))) (hl : ∀ i ys H, Pv i ys H → SqL K H a xs) (hz : ∀ i ys H, Pv i ys H → ys.length < sizeLine)
    (hs : ∀ i x ys H, xs[i]? = some x → Pv i ys H → g x (List.replicate own none ++ cv.map some) H fun σ2 H2 => (σ2.length = own + cv.length ∧ σ2.drop own = cv.map some) ∧
      ti σ2 H2 fun b H3 => if b = true then te σ2 H3 fun y H4 => H4 D = some (.lst ys) ∧ Pv (i + 1) (ys ++ [y]) (upd H4 D (.lst (ys ++ [y]))) else Pv (i + 1) ys H3)
    (hd : ∀ ys H, Pv xs.length ys H → Q (.ref D) H) :
    CompRd (Itl K a) own cv g ti te D H1 Q := by
  refine ⟨fun i m ys H => m = xs.length - i ∧ i ≤ xs.length ∧ Pv i ys H, ⟨xs.length, rfl, Nat.zero_le _, h0⟩, ?_⟩
  rintro i m ys H ⟨rfl, hi, p⟩
  have q := hl i ys H p
  by_cases hlt : i < xs.length
  · refine .inr ⟨⟨xs, xs[i], q, by simp [hlt]⟩, hz i ys H p, Pv (i + 1), fun ys' H' p' => ⟨xs.length - (i + 1), by omega, rfl, hlt, p'⟩, fun x H' y => ?_⟩
    obtain ⟨e, y⟩ := y
    subst e
    exact hs i x ys _ (y xs q) p
  · have e : i = xs.length := by omega
    subst e
    exact .inl ⟨⟨xs, q, Nat.le_refl _⟩, hd ys H p⟩
theorem comp_tup {K : PySem.W.Frag} {a : Addr} {xs : List V} {own : Nat} {g : TG} {ti : TT} {te : TE} {cv : List V} {D : Addr} {H1 : Hp} {Q : VK} (Pv : Nat → List V → Hp → Prop) (h0 : Pv 0 [] (upd H1 D (.lst []))) (hl : ∀ i ys H, Pv i ys H → SqT K H a xs) (hz : ∀ i ys H, Pv i ys H → ys.length < sizeLine)
    (hs : ∀ i x ys H, xs[i]? = some x → Pv i ys H → g x (List.replicate own none ++ cv.map some) H fun σ2 H2 => (σ2.length = own + cv.length ∧ σ2.drop own = cv.map some) ∧
      ti σ2 H2 fun b H3 => if b = true then te σ2 H3 fun y H4 => H4 D = some (.lst ys) ∧ Pv (i + 1) (ys ++ [y]) (upd H4 D (.lst (ys ++ [y]))) else Pv (i + 1) ys H3)
    (hd : ∀ ys H, Pv xs.length ys H → Q (.ref D) H) :
    CompRd (Itt K a) own cv g ti te D H1 Q := by
  refine ⟨fun i m ys H => m = xs.length - i ∧ i ≤ xs.length ∧ Pv i ys H, ⟨xs.length, rfl, Nat.zero_le _, h0⟩, ?_⟩
  rintro i m ys H ⟨rfl, hi, p⟩
  have q := hl i ys H p
  by_cases hlt : i < xs.length
  · refine .inr ⟨⟨xs, xs[i], q, by simp [hlt]⟩, hz i ys H p, Pv (i + 1), fun ys' H' p' => ⟨xs.length - (i + 1), by omega, rfl, hlt, p'⟩, fun x H' y => ?_⟩
    obtain ⟨e, y⟩ := y
    subst e
    exact hs i x ys _ (y xs q) p
  · have e : i = xs.length := by omega
    subst e
    exact .inl ⟨⟨xs, q, Nat.le_refl _⟩, hd ys H p⟩
theorem comp_range {lo : Int} {n own : Nat} {g : TG} {ti : TT} {te : TE} {cv : List V} {D : Addr} {H1 : Hp} {Q : VK} (Pv : Nat → List V → Hp → Prop) (h0 : Pv 0 [] (upd H1 D (.lst []))) (hz : ∀ i ys H, Pv i ys H → ys.length < sizeLine)
    (hs : ∀ i ys H, i < n → Pv i ys H → g (.int (lo + i)) (List.replicate own none ++ cv.map some) H fun σ2 H2 => (σ2.length = own + cv.length ∧ σ2.drop own = cv.map some) ∧
      ti σ2 H2 fun b H3 => if b = true then te σ2 H3 fun y H4 => H4 D = some (.lst ys) ∧ Pv (i + 1) (ys ++ [y]) (upd H4 D (.lst (ys ++ [y]))) else Pv (i + 1) ys H3)
    (hd : ∀ ys H, Pv n ys H → Q (.ref D) H) :
    CompRd (Itr lo n) own cv g ti te D H1 Q := by
  refine ⟨fun i m ys H => m = n - i ∧ i ≤ n ∧ Pv i ys H, ⟨n, rfl, Nat.zero_le _, h0⟩, ?_⟩
  rintro i m ys H ⟨rfl, hi, p⟩
  by_cases hlt : i < n
  · refine .inr ⟨hlt, hz i ys H p, Pv (i + 1), fun ys' H' p' => ⟨n - (i + 1), by omega, rfl, hlt, p'⟩, fun x H' y => ?_⟩
    obtain ⟨e, y⟩ := y
    subst e
    subst y
    exact hs i ys _ hlt p
  · have e : i = n := by omega
    subst e
    exact .inl ⟨Nat.le_refl _, hd ys H p⟩
end L2
namespace SortT
open PySem.W PyProof.Rows
def ev {α : Type} (lt : Nat → Nat → Bool) : KasT α → α
  | .ret a => a
  | .ask i j k => ev lt (k (lt i j))
theorem ev_bind {α β : Type} (lt : Nat → Nat → Bool) (f : α → KasT β) : ∀ t : KasT α, ev lt (t.bind f) = ev lt (f (ev lt t))
  | .ret _ => rfl
  | .ask i j k => ev_bind lt f (k (lt i j))
section
variable {O : KeyOrd} {key : Nat → O.α}
def kk (key : Nat → O.α) (p : Array Nat) (i : Nat) : O.α := key (p.getD i 0)
def Sr (key : Nat → O.α) (p : Array Nat) (n : Nat) : Prop := ∀ i j, i ≤ j → j < n → O.kle (kk key p i) (kk key p j)
def Fl (key : Nat → O.α) (p : Array Nat) (n : Nat) : Prop := ∀ i j, i ≤ j → j < n → O.kle (kk key p j) (kk key p i)
theorem kk_congr {p q : Array Nat} {i j : Nat} (h : p[i]? = q[j]?) : kk key p i = kk key q j := by
  unfold kk; rw [Array.getD_eq_getD_getElem?, Array.getD_eq_getD_getElem?, h]
theorem kk_rev {p : Array Nat} {i j : Nat} (hj : j ≤ p.size) (k : Nat) : kk key (kas_rev p i j) k = if i ≤ k ∧ k < j then kk key p (i + j - 1 - k) else kk key p k := by
  have e := getElem?_mirror_all (i := i) hj k
  unfold kas_rev
  by_cases h1 : i ≤ k ∧ k < j
  · rw [if_pos h1] at e ⊢; exact kk_congr e
  · rw [if_neg h1] at e ⊢; exact kk_congr e
theorem kk_rev_eq {p : Array Nat} {i j : Nat} (hj : j ≤ p.size) (he : ∀ k, i ≤ k → k < j → kk key p k = kk key p (j - 1)) (k : Nat) : kk key (kas_rev p i j) k = kk key p k := by
  rw [kk_rev hj]
  split
  · rw [he _ (by omega) (by omega), he k (by omega) (by omega)]
  · rfl
theorem kk_bubble {p : Array Nat} {src d : Nat} (hs : src < p.size) (hd : d ≤ src) (k : Nat) :
    kk key (bubble p src d) k = if k = src - d then kk key p src else if src - d < k ∧ k ≤ src then kk key p (k - 1) else kk key p k := by
  have e := getElem?_bubble hs d hd k
  by_cases h1 : k = src - d
  · rw [if_pos h1] at e ⊢; exact kk_congr e
  · rw [if_neg h1] at e ⊢
    by_cases h2 : src - d < k ∧ k ≤ src
    · rw [if_pos h2] at e ⊢; exact kk_congr e
    · rw [if_neg h2] at e ⊢; exact kk_congr e
def lt_ (key : Nat → O.α) (i j : Nat) : Bool := O.blt (key i) (key j)
theorem rev_perm (p : Array Nat) (i j : Nat) : (kas_rev p i j).Perm p := mirror_perm _ _ _ _
theorem rev_size (p : Array Nat) (i j : Nat) : (kas_rev p i j).size = p.size := (rev_perm p i j).size_eq

theorem asc_ok {p : Array Nat} : ∀ (f n : Nat), 1 ≤ n → Sr key p n → ∃ m, ev (lt_ key) (kas_asc p f n) = m ∧ n ≤ m ∧ m ≤ n + f ∧ Sr key p m ∧ (m = n + f ∨ O.klt (kk key p m) (kk key p (m - 1)))
  | 0, n, _, hs => ⟨n, rfl, Nat.le_refl _, Nat.le_refl _, hs, .inl rfl⟩
  | f + 1, n, h1, hs => by
    show ∃ m, ev (lt_ key) (if lt_ key (p.getD n 0) (p.getD (n - 1) 0) = true then KasT.ret n else kas_asc p f (n + 1)) = m ∧ _
    cases hl : lt_ key (p.getD n 0) (p.getD (n - 1) 0) with
    | true => exact ⟨n, by simp [ev], Nat.le_refl _, by omega, hs, .inr hl⟩
    | false =>
      have hs' : Sr key p (n + 1) := fun i j hij hj => by
        by_cases hjn : j < n
        · exact hs i j hij hjn
        · have hj' : j = n := by omega
          subst hj'
          by_cases hi' : i = j
          · subst hi'; exact KeyOrd.kle_refl _
          · exact KeyOrd.kle_trans (hs i (j - 1) (by omega) (by omega)) hl
      obtain ⟨m, e, a, b, c, d⟩ := asc_ok f (n + 1) (by omega) hs'
      refine ⟨m, by simpa using e, by omega, by omega, c, ?_⟩
      rcases d with d | d
      · exact .inl (by omega)
      · exact .inr d

theorem tail3_ok {p : Array Nat} {n nrem : Nat} (h1 : 1 ≤ n) (hn : n ≤ nrem) (hz : nrem ≤ p.size) (hs : Fl key p n) :
    ∃ m q, ev (lt_ key) (kas_tail3 n nrem p) = (m, q) ∧ q.Perm p ∧ 1 ≤ m ∧ m ≤ nrem ∧ Sr key q m := by
  unfold kas_tail3
  have hs' : Sr key (kas_rev p 0 n) n := fun i j hij hj => by
    rw [kk_rev (by omega), kk_rev (by omega), if_pos (by omega), if_pos (by omega)]
    exact hs _ _ (by omega) (by omega)
  obtain ⟨m, e, a, b, c, _⟩ := asc_ok (nrem - n) n h1 hs'
  exact ⟨m, kas_rev p 0 n, by rw [ev_bind, e]; rfl, rev_perm _ _ _, by omega, by omega, c⟩

theorem desc_ok : ∀ (f n q : Nat) (p : Array Nat), 1 ≤ n → n + f ≤ p.size → Fl key p n → q + 1 ≤ n → (∀ i, n - (q + 1) ≤ i → i < n → kk key p i = kk key p (n - 1)) →
    ∃ p' n' q', ev (lt_ key) (kas_desc f p n q) = (p', n', q') ∧ p'.Perm p ∧ n ≤ n' ∧ n' ≤ n + f ∧ Fl key p' n' ∧ q' + 1 ≤ n' ∧ (∀ i, n' - (q' + 1) ≤ i → i < n' → kk key p' i = kk key p' (n' - 1))
  | 0, n, q, p, _, _, hs, hq, he => ⟨p, n, q, rfl, .refl _, Nat.le_refl _, Nat.le_refl _, hs, hq, he⟩
  | f + 1, n, q, p, h1, hz, hs, hq, he => by
    show ∃ p' n' q', ev (lt_ key) (if lt_ key (p.getD n 0) (p.getD (n - 1) 0) = true then _ else KasT.ask _ _ _) = (p', n', q') ∧ _
    cases hl : lt_ key (p.getD n 0) (p.getD (n - 1) 0) with
    | true =>
      have step : ∀ xs : Array Nat, (∀ k, kk key xs k = kk key p k) → Fl key xs (n + 1) := fun xs hk i j hij hj => by
        rw [hk, hk]
        by_cases hjn : j < n
        · exact hs i j hij hjn
        · have hj' : j = n := by omega
          subst hj'
          by_cases hi' : i = j
          · subst hi'; exact KeyOrd.kle_refl _
          · exact KeyOrd.kle_trans (KeyOrd.kle_of_klt hl) (hs i (j - 1) (by omega) (by omega))
      by_cases hq0 : q > 0
      · have hk := kk_rev_eq (key := key) (p := p) (i := n - (q + 1)) (j := n) (by omega) he
        obtain ⟨p', n', q', e, a, b, c, d⟩ := desc_ok f (n + 1) 0 (kas_rev p (n - (q + 1)) n) (by omega) (by rw [rev_size]; omega) (step _ hk) (by omega) (fun i h1 h2 => by congr 1; omega)
        exact ⟨p', n', q', by simpa [hq0] using e, a.trans (rev_perm _ _ _), by omega, by omega, d⟩
      · obtain ⟨p', n', q', e, a, b, c, d⟩ := desc_ok f (n + 1) 0 p (by omega) (by omega) (step _ fun _ => rfl) (by omega) (fun i h1 h2 => by congr 1; omega)
        exact ⟨p', n', q', by simpa [hq0] using e, a, by omega, by omega, d⟩
    | false =>
      show ∃ p' n' q', ev (lt_ key) (if lt_ key (p.getD (n - 1) 0) (p.getD n 0) = true then KasT.ret (p, n, q) else kas_desc f p (n + 1) (q + 1)) = (p', n', q') ∧ _
      cases hr : lt_ key (p.getD (n - 1) 0) (p.getD n 0) with
      | true => exact ⟨p, n, q, by simp [ev], .refl _, Nat.le_refl _, by omega, hs, hq, he⟩
      | false =>
        have heq : kk key p n = kk key p (n - 1) := KeyOrd.kle_antisymm hr hl
        have hs' : Fl key p (n + 1) := fun i j hij hj => by
          by_cases hjn : j < n
          · exact hs i j hij hjn
          · have hj' : j = n := by omega
            subst hj'
            by_cases hi' : i = j
            · subst hi'; exact KeyOrd.kle_refl _
            · rw [heq]; exact hs i (j - 1) (by omega) (by omega)
        obtain ⟨p', n', q', e, a, b, c, d⟩ := desc_ok f (n + 1) (q + 1) p (by omega) (by omega) hs' (by omega) (fun i h1 h2 => by
          rw [show n + 1 - 1 = n by omega]
          by_cases hix : i = n
          · subst hix; rfl
          · rw [heq]; exact he i (by omega) (by omega))
        exact ⟨p', n', q', by simpa using e, a, by omega, by omega, d⟩

theorem descPart_ok {p : Array Nat} {n nrem : Nat} (hn : n + 1 ≤ nrem) (hz : nrem ≤ p.size) (hs : Fl key p (n + 1)) :
    ∃ m q, ev (lt_ key) (kas_descPart n nrem p) = (m, q) ∧ q.Perm p ∧ 1 ≤ m ∧ m ≤ nrem ∧ Sr key q m := by
  unfold kas_descPart
  rw [ev_bind]
  obtain ⟨p', n', q', e, a, b, c, d, hq, he⟩ := desc_ok (nrem - (n + 1)) (n + 1) 0 p (by omega) (by omega) hs (by omega) (fun i h1 h2 => by congr 1; omega)
  rw [e]
  dsimp only
  have hz' : p'.size = p.size := a.size_eq
  by_cases hq0 : q' > 0
  · rw [if_pos hq0]
    have hk := kk_rev_eq (key := key) (p := p') (i := n' - (q' + 1)) (j := n') (by omega) he
    obtain ⟨m, r, e2, a2, b2, c2, d2⟩ := tail3_ok (key := key) (p := kas_rev p' (n' - (q' + 1)) n') (n := n') (nrem := nrem) (by omega) (by omega) (by rw [rev_size]; omega) (fun i j hij hj => by rw [hk, hk]; exact d i j hij hj)
    exact ⟨m, r, e2, a2.trans ((rev_perm _ _ _).trans a), b2, c2, d2⟩
  · rw [if_neg hq0]
    obtain ⟨m, r, e2, a2, b2, c2, d2⟩ := tail3_ok (key := key) (p := p') (n := n') (nrem := nrem) (by omega) (by omega) (by omega) d
    exact ⟨m, r, e2, a2.trans a, b2, c2, d2⟩

theorem count_ok {p : Array Nat} {nrem : Nat} (h1 : 1 ≤ nrem) (hz : nrem ≤ p.size) : ∃ m q, ev (lt_ key) (kas_count nrem p) = (m, q) ∧ q.Perm p ∧ 1 ≤ m ∧ m ≤ nrem ∧ Sr key q m := by
  unfold kas_count
  rw [ev_bind]
  obtain ⟨n, e, a, b, hsn, hor⟩ := asc_ok (key := key) (p := p) (nrem - 1) 1 (Nat.le_refl _) (fun i j hij hj => by have : i = j := (by omega); subst this; exact KeyOrd.kle_refl _)
  rw [e]
  by_cases hnn : n = nrem
  · rw [if_pos (by simpa using hnn)]
    exact ⟨n, p, rfl, .refl _, a, by omega, hsn⟩
  · rw [if_neg (by simpa using hnn)]
    have hlt : O.klt (kk key p n) (kk key p (n - 1)) := hor.resolve_left (by omega)
    by_cases hgt : n > 1
    · rw [if_pos hgt]
      show ∃ m q, ev (lt_ key) (if lt_ key (p.getD 0 0) (p.getD (n - 1) 0) = true then KasT.ret (n, p) else kas_descPart n nrem (kas_rev p 0 n)) = (m, q) ∧ _
      cases hr : lt_ key (p.getD 0 0) (p.getD (n - 1) 0) with
      | true => exact ⟨n, p, by simp [ev], .refl _, a, by omega, hsn⟩
      | false =>
        have hall : ∀ k, 0 ≤ k → k < n → kk key p k = kk key p (n - 1) := fun k _ hk =>
          KeyOrd.kle_antisymm (hsn k (n - 1) (by omega) (by omega)) (KeyOrd.kle_trans hr (hsn 0 k (by omega) hk))
        have hk := kk_rev_eq (key := key) (p := p) (i := 0) (j := n) (by omega) hall
        obtain ⟨m, q, e2, a2, b2, c2, d2⟩ := descPart_ok (key := key) (p := kas_rev p 0 n) (n := n) (nrem := nrem) (by omega) (by rw [rev_size]; omega) (fun i j hij hj => by
          rw [hk, hk]
          by_cases hjn : j < n
          · rw [hall i (by omega) (by omega), hall j (by omega) hjn]; exact KeyOrd.kle_refl _
          · have hj' : j = n := by omega
            subst hj'
            by_cases hi' : i = j
            · subst hi'; exact KeyOrd.kle_refl _
            · rw [hall i (by omega) (by omega)]; exact KeyOrd.kle_of_klt hlt)
        exact ⟨m, q, by simpa using e2, a2.trans (rev_perm _ _ _), b2, c2, d2⟩
    · rw [if_neg hgt]
      have hn1 : n = 1 := by omega
      subst hn1
      refine descPart_ok (by omega) hz fun i j hij hj => ?_
      by_cases hi' : i = j
      · subst hi'; exact KeyOrd.kle_refl _
      · have hi0 : i = 0 := by omega
        have hj1 : j = 1 := by omega
        subst hi0; subst hj1
        exact KeyOrd.kle_of_klt hlt

theorem place_ok {p : Array Nat} {k : Nat} (hs : Sr key p k) : ∀ (f l r : Nat), l ≤ r → r ≤ k → r - l ≤ f → (∀ i, i < l → O.kle (kk key p i) (kk key p k)) → (∀ i, r ≤ i → i < k → O.klt (kk key p k) (kk key p i)) →
    ∃ m, ev (lt_ key) (kas_place p k f l r) = m ∧ m ≤ k ∧ (∀ i, i < m → O.kle (kk key p i) (kk key p k)) ∧ (∀ i, m ≤ i → i < k → O.klt (kk key p k) (kk key p i))
  | 0, l, r, hlr, hrk, hf, hlo, hhi => ⟨l, rfl, by omega, hlo, fun i h1 h2 => hhi i (by omega) h2⟩
  | f + 1, l, r, hlr, hrk, hf, hlo, hhi => by
    unfold kas_place
    by_cases hge : l ≥ r
    · rw [if_pos hge]
      exact ⟨l, rfl, by omega, hlo, fun i h1 h2 => hhi i (by omega) h2⟩
    · rw [if_neg hge]
      show ∃ m, ev (lt_ key) (if lt_ key (p.getD k 0) (p.getD ((l + r) / 2) 0) = true then kas_place p k f l ((l + r) / 2) else kas_place p k f ((l + r) / 2 + 1) r) = m ∧ _
      cases hl : lt_ key (p.getD k 0) (p.getD ((l + r) / 2) 0) with
      | true =>
        obtain ⟨m, e, x⟩ := place_ok hs f l ((l + r) / 2) (by omega) (by omega) (by omega) hlo (fun i h1 h2 => KeyOrd.klt_of_klt_of_kle hl (hs _ _ h1 h2))
        exact ⟨m, by simpa using e, x⟩
      | false =>
        obtain ⟨m, e, x⟩ := place_ok hs f ((l + r) / 2 + 1) r (by omega) (by omega) (by omega) (fun i h1 => KeyOrd.kle_trans (hs i ((l + r) / 2) (by omega) (by omega)) (show O.kle _ _ from hl)) hhi
        exact ⟨m, by simpa using e, x⟩

theorem bin_ok : ∀ (f : Nat) (p : Array Nat) (k : Nat), k + f = p.size → Sr key p k → ∃ q, ev (lt_ key) (kas_bin f p k) = q ∧ q.Perm p ∧ Sr key q (k + f)
  | 0, p, k, _, hs => ⟨p, rfl, .refl _, hs⟩
  | f + 1, p, k, hz, hs => by
    unfold kas_bin
    rw [ev_bind]
    obtain ⟨l, e, hlk, hlo, hhi⟩ := place_ok (key := key) hs k 0 k (by omega) (by omega) (by omega) (fun i h => by omega) (fun i h1 h2 => by omega)
    rw [e]
    have hs' : Sr key (bubble p k (k - l)) (k + 1) := fun i j hij hj => by
      rw [kk_bubble (by omega) (by omega), kk_bubble (by omega) (by omega), show k - (k - l) = l by omega]
      repeat' split
      all_goals first
        | (exfalso; omega)
        | exact KeyOrd.kle_refl _
        | exact hlo _ (by omega)
        | exact KeyOrd.kle_of_klt (hhi _ (by omega) (by omega))
        | exact hs _ _ (by omega) (by omega)
    obtain ⟨q, e2, a, b⟩ := bin_ok f (bubble p k (k - l)) (k + 1) (by rw [(bubble_perm p k (k - l)).size_eq]; omega) hs'
    exact ⟨q, e2, a.trans (bubble_perm _ _ _), by rw [show k + (f + 1) = k + 1 + f by omega]; exact b⟩

/-- the tree's answer: the numbers below n, so put that the keys rise -/
theorem sort_ok (n : Nat) (h1 : 1 ≤ n) : ∃ q, ev (lt_ key) (kas_sort n) = q ∧ q.Perm (List.range n).toArray ∧ Sr key q n := by
  unfold kas_sort
  rw [ev_bind]
  have hz : (List.range n).toArray.size = n := by simp
  obtain ⟨m, q, e, a, b, c, d⟩ := count_ok (key := key) (p := (List.range n).toArray) h1 (by omega)
  rw [e]
  dsimp only
  have hq : q.size = n := by rw [a.size_eq, hz]
  by_cases hm : m < n
  · rw [if_pos hm]
    obtain ⟨r, e2, a2, b2⟩ := bin_ok (key := key) (n - max m 1) q (max m 1) (by omega) (by rw [show max m 1 = m by omega]; exact d)
    exact ⟨r, e2, a2.trans a, by rw [show max m 1 + (n - max m 1) = n by omega] at b2; exact b2⟩
  · rw [if_neg hm]
    have : m = n := by omega
    subst this
    exact ⟨q, rfl, a, d⟩
end
end SortT
namespace SortT
open PySem.W PyProof.Rows
/-- every question of the tree asks below n; R holds of what it hands back -/
def WinP {α : Type} (n : Nat) (R : α → Prop) : KasT α → Prop
  | .ret a => R a
  | .ask i j k => i < n ∧ j < n ∧ ∀ b, WinP n R (k b)
theorem WinP.bind {α β : Type} {n : Nat} {R : α → Prop} {R' : β → Prop} {f : α → KasT β} (hf : ∀ a, R a → WinP n R' (f a)) : ∀ (t : KasT α), WinP n R t → WinP n R' (t.bind f)
  | .ret a, h => hf a h
  | .ask _ _ k, h => ⟨h.1, h.2.1, fun b => WinP.bind hf (k b) (h.2.2 b)⟩
def Bd (n : Nat) (p : Array Nat) : Prop := ∀ i, p.getD i 0 < n
theorem Bd.perm {n : Nat} {p q : Array Nat} (h : Bd n q) (hp : p.Perm q) : Bd n p := fun i => by
  have h0 : 0 < n := Nat.lt_of_le_of_lt (Nat.zero_le _) (h 0)
  by_cases hi : i < p.size
  · have e : p.getD i 0 = p[i] := by simp [Array.getD, hi]
    rw [e]
    have hm : p[i] ∈ q.toList := (Array.perm_iff_toList_perm.mp hp).mem_iff.mp (by simp)
    obtain ⟨j, hj, ej⟩ := List.getElem_of_mem hm
    have hj' : j < q.size := by simpa using hj
    have := h j
    rw [show q.getD j 0 = q[j] by simp [Array.getD, hj']] at this
    rw [← ej]
    simpa using this
  · have e : p.getD i 0 = 0 := by simp [Array.getD, hi]
    rw [e]; exact h0
theorem asc_win {n : Nat} {p : Array Nat} (hp : Bd n p) : ∀ f m, WinP n (fun _ => True) (kas_asc p f m)
  | 0, _ => trivial
  | f + 1, m => ⟨hp _, hp _, fun b => by
      cases b with
      | true => exact trivial
      | false => exact asc_win hp f (m + 1)⟩
theorem desc_win {n : Nat} : ∀ (f : Nat) (p : Array Nat) (m q : Nat), Bd n p → WinP n (fun r => Bd n r.1) (kas_desc f p m q)
  | 0, _, _, _, hp => hp
  | f + 1, p, m, q, hp => ⟨hp _, hp _, fun b => by
      cases b with
      | true =>
        show WinP n _ (if q > 0 then kas_desc f (kas_rev p (m - (q + 1)) m) (m + 1) 0 else kas_desc f p (m + 1) 0)
        split
        · exact desc_win f _ _ _ (hp.perm (rev_perm _ _ _))
        · exact desc_win f _ _ _ hp
      | false =>
        refine ⟨hp _, hp _, fun d => ?_⟩
        cases d with
        | true => exact hp
        | false => exact desc_win f _ _ _ hp⟩
theorem tail3_win {n m nrem : Nat} {p : Array Nat} (hp : Bd n p) : WinP n (fun r => Bd n r.2) (kas_tail3 m nrem p) := by
  unfold kas_tail3
  exact WinP.bind (R := fun _ => True) (R' := fun r => Bd n r.2) (f := fun k => KasT.ret (k, kas_rev p 0 m)) (fun a _ => hp.perm (rev_perm p 0 m)) _ (asc_win (hp.perm (rev_perm p 0 m)) _ _)
theorem descPart_win {n m nrem : Nat} {p : Array Nat} (hp : Bd n p) : WinP n (fun r => Bd n r.2) (kas_descPart m nrem p) :=
  WinP.bind (fun r hr => by
    split
    · exact tail3_win (hr.perm (rev_perm _ _ _))
    · exact tail3_win hr) _ (desc_win _ _ _ _ hp)
theorem count_win {n nrem : Nat} {p : Array Nat} (hp : Bd n p) : WinP n (fun r => Bd n r.2) (kas_count nrem p) :=
  WinP.bind (fun r _ => by
    split
    · exact hp
    · split
      · refine ⟨hp _, hp _, fun b => ?_⟩
        cases b with
        | true => exact hp
        | false => exact descPart_win (hp.perm (rev_perm _ _ _))
      · exact descPart_win hp) _ (asc_win hp _ _)
theorem place_win {n k : Nat} {p : Array Nat} (hp : Bd n p) : ∀ f l r, WinP n (fun _ => True) (kas_place p k f l r)
  | 0, _, _ => trivial
  | f + 1, l, r => by
    unfold kas_place
    split
    · exact trivial
    · refine ⟨hp _, hp _, fun b => ?_⟩
      cases b with
      | true => exact place_win hp f _ _
      | false => exact place_win hp f _ _
theorem bin_win {n : Nat} : ∀ (f : Nat) (p : Array Nat) (k : Nat), Bd n p → WinP n (fun _ => True) (kas_bin f p k)
  | 0, _, _, _ => trivial
  | f + 1, p, k, hp => WinP.bind (fun l _ => bin_win f _ _ (hp.perm (bubble_perm _ _ _))) _ (place_win hp _ _ _)
theorem sort_win {n : Nat} (h : 0 < n) : WinP n (fun _ => True) (kas_sort n) :=
  WinP.bind (fun r hr => by
    split
    · exact bin_win _ _ _ hr
    · exact trivial) _ (count_win fun i => by
      by_cases hi : i < n
      · simp [Array.getD, hi]
      · simp [Array.getD, hi]; exact h)
end SortT
namespace SortT
open PySem PySem.W PySem.Calls PyProof.Rows
theorem wp_ev {α : Type} {cmp : Nat → Nat → (Bool → Shared → Prop) → Shared → Prop} {lt : Nat → Nat → Bool} {n : Nat} {s : Shared} (hc : ∀ i j C, i < n → j < n → C (lt i j) s → cmp i j C s) {R : α → Prop} {Q : α → Shared → Prop} :
    ∀ t : KasT α, WinP n R t → Q (ev lt t) s → t.kasWp cmp Q s
  | .ret _, _, h => h
  | .ask i j k, w, h => hc i j _ w.1 w.2.1 (wp_ev hc (k (lt i j)) (w.2.2 _) h)

section
variable {prog : Program} {w : World} {A : Around} {E : Value → Shared → Prop} {s : Shared}
/-- the places below n, so put that their keys rise -/
structure Put {O : KeyOrd} (key : Nat → O.α) (n : Nat) (out : List Nat) : Prop where
  perm : out.Perm (List.range n)
  rise : ∀ (i j a b : Nat), i ≤ j → out[i]? = some a → out[j]? = some b → O.kle (key a) (key b)
theorem put_of {O : KeyOrd} {key : Nat → O.α} {n : Nat} {q : Array Nat} (hp : q.Perm (List.range n).toArray) (hs : Sr key q n) : Put key n q.toList := by
  have hl : q.toList.Perm (List.range n) := Array.perm_iff_toList_perm.mp hp
  refine ⟨hl, fun i j a b hij ha hb => ?_⟩
  have hz : q.size = n := by have := hp.size_eq; simpa using this
  have hj : j < q.toList.length := (List.getElem?_eq_some_iff.mp hb).1
  have hj' : j < n := by rw [← hz]; simpa using hj
  have h := hs i j hij hj'
  have ga : q.getD i 0 = a := by
    rw [Array.getD_eq_getD_getElem?, ← Array.getElem?_toList, ha]; rfl
  have gb : q.getD j 0 = b := by
    rw [Array.getD_eq_getD_getElem?, ← Array.getElem?_toList, hb]; rfl
  unfold kk at h
  rw [ga, gb] at h
  exact h

/-- how the items are asked: the kind of the keys, then two of them, in whatever state keeps all that stood there but a -/
structure Asks (prog : Program) (w : World) (A : Around) (s : Shared) (a : Addr) (vs : List Value) {O : KeyOrd} (key : Nat → O.α) (κ : SortKind) : Prop where
  kind : ∀ (h' : Heap) (Q : SortKind → Shared → Prop) (E : Value → Shared → Prop), (∀ b o, b ≠ a → s.heap.get? b = some o → h'.get? b = some o) → Q κ { s with heap := h' } → wpAny (model prog w) A (keyKind' vs.toArray) Q E { s with heap := h' }
  less : ∀ (h' : Heap) (i j : Nat) (Q : Bool → Shared → Prop) (E : Value → Shared → Prop), (∀ b o, b ≠ a → s.heap.get? b = some o → h'.get? b = some o) → i < vs.length → j < vs.length → Q (O.blt (key i) (key j)) { s with heap := h' } →
    wpAny (model prog w) A (keyLt' κ (vs.getD i Value.none) (vs.getD j Value.none)) Q E { s with heap := h' }

theorem list_sort {a : Addr} {vs : List Value} {n : Nat} {P : PySem.Fin → Shared → Prop} {O : KeyOrd} {key : Nat → O.α} {κ : SortKind} (ho : s.heap.get? a = some (seqObj "list" vs.toArray n)) (h64 : vs.length < 64)
    (ask : 2 ≤ vs.length → Asks prog w A s a vs key κ)
    (h : ∀ out : List Nat, Put key vs.length out → P (.done (.ret .none)) { s with heap := sortedHeap s.heap a vs (out.map fun i => vs.getD i Value.none).toArray }) :
    wpAny (model prog w) A (Builtin.«list.sort» ⟨[.ref a], []⟩) P E s := by
  rw [list_sort_plain]
  have ha : a < s.heap.objs.size := Heap.lt_size ho
  refine wpAny_bind (listItems_at ho rfl ?_)
  refine wpAny_bind (listUpdate_at ho rfl ?_ (by rw [List.size_toArray, sizeLine_eq]; omega) (Nat.zero_le _))
  obtain ⟨e1, ho1⟩ : ∃ e1, (s.heap.update a (Obj.mapSeq fun _ => #[])).get? a = some (seqObj "list" #[] e1) := ⟨_, get?_update_seq ho (fun _ => #[])⟩
  refine wpAny_bind (seqEpoch_at ho1 rfl ?_)
  refine wpAny_bind (wpAny_newTuple ?_ (by show vs.length ≤ _; rw [sizeLine_eq]; omega))
  refine wpAny_bind (wpAny_newList ?_ (Nat.zero_le _))
  refine wpAny_holding ?_
  have ho6 : (((s.heap.update a (Obj.mapSeq fun _ => #[])).push (seqObj "tuple" vs.toArray 0)).push (seqObj "list" #[] 0)).get? a = some (seqObj "list" #[] e1) := by
    rw [Heap.get?_push_ne _ _ _ (by rw [size_push', Heap.size_update]; exact Nat.ne_of_lt (Nat.lt_succ_of_lt ha)), Heap.get?_push_ne _ _ _ (by rw [Heap.size_update]; exact Nat.ne_of_lt ha)]
    exact ho1
  have keep : ∀ b o, b ≠ a → s.heap.get? b = some o → (((s.heap.update a (Obj.mapSeq fun _ => #[])).push (seqObj "tuple" vs.toArray 0)).push (seqObj "list" #[] 0)).get? b = some o := fun b o hb e => by
    refine Heap.get?_push_of_some _ (Heap.get?_push_of_some _ ?_)
    rw [Heap.get?_update_ne _ _ _ _ hb]
    exact e
  show wpAny (model prog w) A _ P E { s with heap := ((s.heap.update a (Obj.mapSeq fun _ => #[])).push (seqObj "tuple" vs.toArray 0)).push (seqObj "list" #[] 0) }
  dsimp only
  by_cases h2 : vs.toArray.size < 2
  · rw [if_pos h2, if_pos h2]
    refine wpAny_bind (wpAny_pure ?_)
    rw [StateT.run_pure]
    refine wpAny_bind (wpAny_pure ?_)
    dsimp only
    refine wpAny_bind (seqEpoch_at ho6 rfl ?_)
    refine wpAny_bind (listUpdate_at ho6 rfl ?_ (Nat.zero_le _) (by rw [Array.size_map]; show (pairsOf vs).size ≤ _; rw [pairsOf_size, sizeLine_eq]; omega))
    simp only [bne_self_eq_false, Bool.false_eq_true, if_false]
    refine wpAny_pure ?_
    have hlen : vs.length < 2 := by simpa using h2
    have hout : (arrOf (SortSt.mk' general' (vs.toArray.zip vs.toArray) #[] 7 none)).map (·.2) = ((List.range vs.length).map fun i => vs.getD i Value.none).toArray := by
      show (vs.toArray.zip vs.toArray).map (·.2) = _
      match vs, hlen with
      | [], _ => simp
      | [v], _ => simp
      | _ :: _ :: _, h => exfalso; simp only [List.length_cons] at h; omega
    have fin := h (List.range vs.length) ⟨.refl _, fun i j x y hij hx hy => by
      have hj : j < (List.range vs.length).length := (List.getElem?_eq_some_iff.mp hy).1
      rw [List.length_range] at hj
      have e : i = j := by omega
      subst e
      rw [hx] at hy
      cases hy
      exact KeyOrd.kle_refl _⟩
    rw [← hout] at fin
    exact fin
  · rw [if_neg h2, if_neg h2]
    have h2' : 2 ≤ vs.length := by
      have : ¬ vs.length < 2 := by simpa using h2
      omega
    have K := ask h2'
    refine wpAny_bind (K.kind _ _ _ keep ?_)
    obtain ⟨q, eq, hp, hs⟩ := sort_ok (key := key) vs.length (by omega)
    have run : (kas_sort vs.length).kasWp (kas_ask prog w A κ vs) (fun p s' => p = q ∧ s' = { s with heap := ((s.heap.update a (Obj.mapSeq fun _ => #[])).push (seqObj "tuple" vs.toArray 0)).push (seqObj "list" #[] 0) })
        { s with heap := ((s.heap.update a (Obj.mapSeq fun _ => #[])).push (seqObj "tuple" vs.toArray 0)).push (seqObj "list" #[] 0) } :=
      wp_ev (lt := lt_ key) (n := vs.length) (fun i j C hi hj hC => K.less _ i j C _ keep hi hj hC) _ (sort_win (by omega)) ⟨eq, rfl⟩
    refine wpAny_bind (wpAny_mono (kat_run (ks := vs) (vs := vs) (Q := fun st' s' => ∃ p : Array Nat, p.size = vs.length ∧ arrOf st' = p.map (kas_item (vs.toArray.zip vs.toArray)) ∧ failedOf st' = none ∧ p = q ∧ s' = { s with heap := ((s.heap.update a (Obj.mapSeq fun _ => #[])).push (seqObj "tuple" vs.toArray 0)).push (seqObj "list" #[] 0) })
      rfl h2' h64 (fun p' st' s' a1 a2 a3 a4 => ⟨p', a1, a2, a3, a4⟩) run) ?_ fun _ _ e => e)
    rintro ⟨⟨⟩, st'⟩ s' ⟨p, hsz, har, hf, rfl, rfl⟩
    dsimp only
    refine wpAny_bind (seqEpoch_at ho6 rfl ?_)
    refine wpAny_bind (listUpdate_at ho6 rfl ?_ (Nat.zero_le _) (by rw [Array.size_map, har, Array.size_map, hsz, sizeLine_eq]; omega))
    rw [hf]
    simp only [bne_self_eq_false, Bool.false_eq_true, if_false]
    refine wpAny_pure ?_
    have hout := kat_snds (ks := vs) (vs := vs) rfl har
    have fin := h p.toList (put_of hp hs)
    rw [← hout] at fin
    exact fin

/-- sorted(list): a new list at D; all that stood there stays -/
theorem sorted_list {l : Addr} {vs : List Value} {Q : Value → Shared → Prop} {O : KeyOrd} {key : Nat → O.α} {κ : SortKind} (hl : s.heap.IsList l vs.toArray) (h64 : vs.length < 64)
    (ask : 2 ≤ vs.length → ∀ (s' : Shared) (a : Addr), (∀ b o, s.heap.get? b = some o → b ≠ a) → (∀ b o, s.heap.get? b = some o → s'.heap.get? b = some o) → Asks prog w A.in1.in1 s' a vs key κ)
    (h : ∀ (D : Addr) (h' : Heap) (out : List Nat) (c : Nat), Put key vs.length out → s.heap.objs.size ≤ D → (∀ b o, s.heap.get? b = some o → h'.get? b = some o) →
      h'.get? D = some (seqObj "list" (out.map fun i => vs.getD i Value.none).toArray c) → Q (.ref D) { s with heap := h' }) :
    wpAny (model prog w) A (call (.builtin "sorted") [.ref l]) Q E s := by
  refine Calls.call_function_entry kind_sorted plain_sorted entry_sorted (args_sorted1 _) ?_
  unfold Builtin.«sorted»
  refine wpAny_bind (m := checkCount "sorted" 1 1 _) (wpAny_pure ?_)
  refine wpAny_bind (collect_list hl ?_ (by rw [sizeLine_eq]; omega))
  refine wpAny_bind (wpAny_newList ?_ (by rw [sizeLine_eq]; omega))
  have hsz : ((s.heap.push (seqObj "list" #[] 0)).update s.heap.objs.size (Obj.mapSeq (· ++ vs.toArray))).objs.size = s.heap.objs.size + 1 := by
    rw [Heap.size_update, size_push']
  have hoL : (((s.heap.push (seqObj "list" #[] 0)).update s.heap.objs.size (Obj.mapSeq (· ++ vs.toArray))).push (seqObj "list" vs.toArray 0)).get? (s.heap.objs.size + 1) = some (seqObj "list" vs.toArray 0) := by
    rw [← hsz]; exact Heap.get?_push_size _ rfl
  have keep : ∀ b o, s.heap.get? b = some o → (((s.heap.push (seqObj "list" #[] 0)).update s.heap.objs.size (Obj.mapSeq (· ++ vs.toArray))).push (seqObj "list" vs.toArray 0)).get? b = some o := fun b o q => by
    have hlt : b < s.heap.objs.size := Heap.lt_size q
    rw [Heap.get?_push_ne _ _ _ (by rw [hsz]; exact Nat.ne_of_lt (Nat.lt_succ_of_lt hlt)), Heap.get?_update_ne _ _ _ _ (Nat.ne_of_lt hlt), Heap.get?_push_ne _ _ _ (Nat.ne_of_lt hlt)]
    exact q
  show wpAny _ _ _ _ _ { s with heap := ((s.heap.push (seqObj "list" #[] 0)).update s.heap.objs.size (Obj.mapSeq (· ++ vs.toArray))).push (seqObj "list" vs.toArray 0) }
  rw [hsz]
  refine wpAny_bind (wpAny_holding (wpAny_call_entry slot_list_sort ⟨_, hoL, rfl⟩ entry_list_sort (list_sort (O := O) (key := key) (κ := κ) hoL h64 (fun h2 => ask h2 _ _ (fun b o e => Nat.ne_of_lt (Nat.lt_succ_of_lt (Heap.lt_size e))) keep) fun out hp => ⟨_, rfl, ?_⟩) (args_list_sort _)))
  refine wpAny_pure ⟨_, rfl, ?_⟩
  obtain ⟨c, hc⟩ := sortedAll_at s.heap vs (out.map fun i => vs.getD i Value.none).toArray
  exact h _ _ out c hp (Nat.le_succ _) (fun b o e => sortedAll_old e) hc
end
end SortT
namespace DRaw
open PySem PySem.W PySem.Calls PyProof.Rows
/-- an exact dict, its entries as they stand -/
def At (h : Heap) (d : Addr) (es : Array DictEntry) (ep : Nat) : Prop := ∃ o, h.get? d = some o ∧ o.ExactDict ∧ o.data = .dict es ep
theorem At.keep {h h' : Heap} {d : Addr} {es : Array DictEntry} {ep : Nat} (x : At h d es ep) (k : ∀ o, h.get? d = some o → h'.get? d = some o) : At h' d es ep :=
  let ⟨o, ho, r⟩ := x; ⟨o, k o ho, r⟩
theorem At.lt {h : Heap} {d : Addr} {es : Array DictEntry} {ep : Nat} (x : At h d es ep) : d < h.objs.size := let ⟨_, ho, _⟩ := x; Heap.lt_size ho
theorem At.typeIs {s : Shared} {d : Addr} {es : Array DictEntry} {ep : Nat} (x : At s.heap d es ep) : s.TypeIs (.ref d) "dict" := let ⟨o, ho, hc, _⟩ := x; ⟨o, ho, hc.1⟩
section
variable {prog : Program} {w : World} {A : Around} {E : Value → Shared → Prop} {s : Shared} {it d : Addr} {es : Array DictEntry} {i ep : Nat}
theorem iter {Q : Value → Shared → Prop} (hd : (d == sysModules) = false) (hm : At s.heap d es ep)
    (hQ : Q (.ref s.heap.objs.size) { s with heap := s.heap.push { cls := .type "dict_keyiterator", data := .fields #[.ref d, .int 0 0, .int es.size 0, .int ep 0] } }) :
    wpAny (model prog w) A (pyIter (.ref d)) Q E s := by
  obtain ⟨o, ho, hc, hdat⟩ := id hm
  have hT := hm.typeIs
  refine wpAny_pyIter_slot hT F.slot_dict_iter (wpAny_call_entry F.slot_dict_iter hT F.entry_dict_iter ?_ (F.args_dict_iter_1 _))
  unfold Builtin.«dict.__iter__»
  refine wpAny_bind ?_
  unfold Builtin.Dict.dictSlotNone
  refine wpAny_bind (wpAny_notOrdered_dict hT ?_)
  show wpAny _ _ (pure (Value.ref d)) _ _ s
  refine wpAny_pure ?_
  show wpAny _ _ (Builtin.Dict.showsAll d >>= _) _ _ s
  unfold Builtin.Dict.showsAll
  rw [if_neg (by rw [hd]; exact Bool.false_ne_true)]
  refine wpAny_bind (wpAny_pure ?_)
  refine wpAny_bind (wpAny_dictEntries ho hdat ?_)
  refine wpAny_bind (wpAny_dictEpoch ho hdat ?_)
  refine wpAny_bind (wpAny_newObj_type (wpAny_pure ⟨_, rfl, "dict_keyiterator", _, ⟨_, Heap.get?_push_size _ rfl, rfl⟩, F.slot_dict_keyiterator_next.lookup, ?_⟩))
  simpa [rawInt] using hQ
theorem next {Q : Option Value → Shared → Prop} (hit : s.heap.IsKeyIter it d i es.size ep) (hm : At s.heap d es ep) (hlt' : i < es.size)
    (hQ : ∀ h', h'.IsKeyIter it d (i + 1) es.size ep → Heap.SameBut it s.heap h' → Q (some es[i].key) { s with heap := h' }) : wpAny (model prog w) A (pyNext (.ref it)) Q E s := by
  obtain ⟨o, ho, hc, hd⟩ := id hit
  obtain ⟨od, hod, hcd, hdd⟩ := id hm
  unfold pyNext
  refine wpAny_bind (wpAny_attempt (wpAny_callSpecial?_slot (name := Str.ofString "__next__") hit.typeIs F.slot_dict_keyiterator_next
    (wpAny_call_entry F.slot_dict_keyiterator_next hit.typeIs F.entry_dict_keyiterator_next ?_ (F.args_dict_keyiterator_next_1 _))))
  refine wpAny_bind (wpAny_pure ?_)
  refine wpAny_bind ?_
  refine wpAny_bind ?_
  first | refine wpAny_bind (wpAny_typeNameOfWhole_keyiter hit.typeIs (wpAny_pure ?_)) | refine wpAny_bind (wpAny_typeNameOf_keyiter hit.typeIs (wpAny_pure ?_))
  refine wpAny_bind (wpAny_fieldsOf ho hd ?_)
  have hown : Builtin.Dict_items.ownsTuple "dict_keyiterator" = false := by decide
  simp only [hown, Bool.false_eq_true, if_false]
  show wpAny _ _ (if (Value.ref d == Value.none) = true then _ else _) _ _ s
  rw [if_neg (show ¬ ((Value.ref d == Value.none) = true) from Bool.false_ne_true)]
  refine wpAny_bind (wpAny_pure ?_)
  refine wpAny_bind (wpAny_dictEntries hod hdd ?_)
  rw [if_neg (by simp)]
  refine wpAny_bind (wpAny_pure ?_)
  refine wpAny_bind (wpAny_dictEpoch hod hdd ?_)
  rw [if_neg (by simp)]
  refine wpAny_pure ?_
  simp only [show ¬ ((i : Int) < 0) from by omega, if_false, Int.toNat_natCast, Array.getElem?_eq_getElem hlt']
  refine wpAny_bind ?_
  first | refine wpAny_bind (wpAny_typeNameOfWhole_keyiter hit.typeIs (wpAny_pure ?_)) | refine wpAny_bind (wpAny_typeNameOf_keyiter hit.typeIs (wpAny_pure ?_))
  refine wpAny_bind (wpAny_isOneOf_keyiter hit.typeIs ?_)
  show wpAny _ _ (setField (.ref it) 1 (rawInt ((i : Int) + 1)) >>= _) _ _ s
  refine wpAny_bind (wpAny_setField ho hd (by simp) ?_)
  have hit' : (s.heap.update it (Obj.mapFields (·.setIfInBounds 1 (rawInt ((i : Int) + 1))))).IsKeyIter it d (i + 1) es.size ep :=
    ⟨_, Heap.get?_update_self _ ho (Obj.isFreed_of_fields (Obj.data_mapFields hd _)), (Obj.cls_mapFields ..).trans hc, by rw [Obj.data_mapFields hd]; simp [rawInt]⟩
  refine wpAny_bind (wpAny_holding ?_)
  refine wpAny_bind (wpAny_isOneOf_keyiter (s := { s with heap := s.heap.update it (Obj.mapFields (·.setIfInBounds 1 (rawInt ((i : Int) + 1)))) }) hit'.typeIs ?_)
  show wpAny _ _ (pure es[i].key) _ _ _
  exact wpAny_pure (wpAny_pure ⟨_, rfl, wpAny_pure (hQ _ hit' (Heap.SameBut.update ..))⟩)
theorem stop {Q : Option Value → Shared → Prop} (hh : A.handled = none) (hit : s.heap.IsKeyIter it d i es.size ep) (hm : At s.heap d es ep) (hge : es.size ≤ i)
    (hQ : ∀ h', Heap.ExtBut it s.heap h' → Q none { s with heap := h' }) : wpAny (model prog w) A (pyNext (.ref it)) Q E s := by
  obtain ⟨o, ho, hc, hd⟩ := id hit
  obtain ⟨od, hod, hcd, hdd⟩ := id hm
  unfold pyNext
  refine wpAny_bind (wpAny_attempt (wpAny_callSpecial?_slot (name := Str.ofString "__next__") hit.typeIs F.slot_dict_keyiterator_next
    (wpAny_call_entry F.slot_dict_keyiterator_next hit.typeIs F.entry_dict_keyiterator_next ?_ (F.args_dict_keyiterator_next_1 _))))
  refine wpAny_bind (wpAny_pure ?_)
  refine wpAny_bind ?_
  refine wpAny_bind ?_
  first | refine wpAny_bind (wpAny_typeNameOfWhole_keyiter hit.typeIs (wpAny_pure ?_)) | refine wpAny_bind (wpAny_typeNameOf_keyiter hit.typeIs (wpAny_pure ?_))
  refine wpAny_bind (wpAny_fieldsOf ho hd ?_)
  have hown : Builtin.Dict_items.ownsTuple "dict_keyiterator" = false := by decide
  simp only [hown, Bool.false_eq_true, if_false]
  show wpAny _ _ (if (Value.ref d == Value.none) = true then _ else _) _ _ s
  rw [if_neg (show ¬ ((Value.ref d == Value.none) = true) from Bool.false_ne_true)]
  refine wpAny_bind (wpAny_pure ?_)
  refine wpAny_bind (wpAny_dictEntries hod hdd ?_)
  rw [if_neg (by simp)]
  refine wpAny_bind (wpAny_pure ?_)
  refine wpAny_bind (wpAny_dictEpoch hod hdd ?_)
  rw [if_neg (by simp)]
  refine wpAny_pure ?_
  simp only [show ¬ ((i : Int) < 0) from by omega, if_false, Int.toNat_natCast, Array.getElem?_eq_none hge]
  refine wpAny_bind ?_
  first | refine wpAny_bind (wpAny_typeNameOfWhole_keyiter hit.typeIs (wpAny_pure ?_)) | refine wpAny_bind (wpAny_typeNameOf_keyiter hit.typeIs (wpAny_pure ?_))
  show wpAny _ _ (setField (.ref it) 0 .none >>= _) _ _ s
  refine wpAny_bind (wpAny_setField ho hd (by simp) ?_)
  show wpAny _ _ (newExc (.type "StopIteration") [] >>= _) _ _ _
  refine wpAny_bind ?_
  simp only [newExc, newTuple]
  refine wpAny_bind (wpAny_newObj_type ?_ (by size_fits))
  refine wpAny_bind (m := firstArgMember _ _) (wpAny_of_eq (a := Value.none) (by first | rfl | (simp only [firstArgMember]; rfl)) ?_)
  refine wpAny_newObj_type ?_ (by size_fits)
  simp only [raiseNew]
  refine wpAny_bind (wpAny_handled ?_)
  rw [show A.in1.handled = none from hh]
  refine wpAny_bind (wpAny_pure (wpAny_throw ?_))
  refine wpAny_bind (wpAny_isInstance (T := "StopIteration") (b := true) ⟨_, Heap.get?_push_size _ rfl, rfl⟩ isSubtype_stop ?_)
  exact wpAny_pure (hQ _ (((Heap.SameBut.update ..).extBut.push _).push _))
end
section
variable {prog : Program} {w : World} {A : Around} {d : Addr} {es : Array DictEntry} {ep : Nat}
theorem walks (hh : A.handled = none) (I : Addr) (hne : d ≠ I) : Walks prog w A I [I, d] [I] es.size (fun i v => ∃ e, es[i]? = some e ∧ v = e.key) (fun i h => h.IsKeyIter I d i es.size ep ∧ At h d es ep) where
  sub := fun b hb => by simp at hb; simp [hb]
  frame := fun _ _ _ st hk => ⟨st.1.at fun o e => hk I (by simp) o e, st.2.keep fun o e => hk d (by simp) o e⟩
  item := fun i s Q E hi st hQ => next st.1 st.2 hi fun h' hit' hs' =>
    hQ _ h' s.toks ⟨es[i], by simp [hi], rfl⟩ ⟨hit', st.2.keep fun o e => hs'.extBut d o hne e⟩ fun b o hb e => hs'.extBut b o (fun h => hb (by simp [h])) e
  done := fun s Q E st hQ => stop hh st.1 st.2 (Nat.le_refl _) fun h' he' => hQ h' s.toks fun b o hb e => he' b o (fun h => hb (by simp [h])) e
  self := fun _ _ _ _ st hQ => wpAny_pyIter_keyiter st.1 hQ
theorem src (lo : (d == sysModules) = false) : KdlSrc prog w "dict" d d es.size (fun i v => ∃ e, es[i]? = some e ∧ v = e.key) (fun h => At h d es ep) where
  type := fun _ hm => hm.typeIs
  there := fun _ hm => ⟨hm.lt, hm.lt⟩
  keep := fun _ _ hm hk => hm.keep fun o e => hk d (.inl rfl) o e
  notList := by decide
  notTuple := by decide
  hint := fun _ _ _ _ hm hq => kdl_hint_dict hm.typeIs hq
  iter := fun _ _ hh hm => ⟨_, _, (fun _ _ hq => iter lo hm hq), walks hh _ (Nat.ne_of_lt hm.lt), ⟨⟨_, Heap.get?_push_size _ rfl, rfl, rfl⟩, hm.keep fun o e => Heap.get?_push_of_some _ e⟩⟩
end
end DRaw
namespace SortT
open PySem PySem.W PySem.Calls PyProof.Rows
/-- sorted(dict): a new list of its keys at D -/
theorem sorted_dict {prog : Program} {w : World} {A : Around} {E : Value → Shared → Prop} {s : Shared} {d : Addr} {es : Array DictEntry} {ep : Nat} {vs : List Value} {Q : Value → Shared → Prop} {O : KeyOrd} {key : Nat → O.α} {κ : SortKind}
    (hh : A.handled = none) (lo : (d == sysModules) = false) (hm : DRaw.At s.heap d es ep) (hvs : vs = es.toList.map (·.key)) (h64 : vs.length < 64)
    (ask : 2 ≤ vs.length → ∀ (s' : Shared) (a : Addr), (∀ b o, s.heap.get? b = some o → b ≠ a) → (∀ b o, s.heap.get? b = some o → s'.heap.get? b = some o) → Asks prog w A.in1.in1 s' a vs key κ)
    (h : ∀ (h1 : Heap) (D : Addr) (h' : Heap) (t' : Nat) (out : List Nat) (c : Nat), Put key vs.length out → (∀ b o, s.heap.get? b = some o → h1.get? b = some o) → h1.objs.size ≤ D → (∀ b o, h1.get? b = some o → h'.get? b = some o) →
      h'.get? D = some (seqObj "list" (out.map fun i => vs.getD i Value.none).toArray c) → Q (.ref D) { s with heap := h', toks := t' }) :
    wpAny (model prog w) A (call (.builtin "sorted") [.ref d]) Q E s := by
  have hlen : vs.length = es.size := by rw [hvs]; simp
  refine call_function_entry kind_sorted plain_sorted entry_sorted (args_sorted1 _) ?_
  unfold Builtin.«sorted»
  refine wpAny_bind (m := checkCount "sorted" 1 1 _) (wpAny_pure ?_)
  refine wpAny_bind (kdu_collect (A := A.in1) (DRaw.src (es := es) (ep := ep) lo) hh hm (by rw [sizeLine_eq]; omega) fun h1 tk acc hk hacc => ?_)
  have el : acc.toList = vs := by
    apply List.ext_getElem?
    intro j
    by_cases hj : j < es.size
    · have hz : j < acc.size := by rw [hacc.1]; exact hj
      obtain ⟨e, he, hv⟩ := hacc.2 j acc[j] (by simp [hz])
      rw [Array.getElem?_toList, Array.getElem?_eq_getElem hz, hv, hvs, List.getElem?_map, Array.getElem?_toList, he]
      rfl
    · rw [List.getElem?_eq_none (by rw [Array.length_toList, hacc.1]; omega), List.getElem?_eq_none (by omega)]
  rw [el]
  refine wpAny_bind (wpAny_newList ?_ (by rw [sizeLine_eq]; omega))
  have hoL : (h1.push (seqObj "list" vs.toArray 0)).get? h1.objs.size = some (seqObj "list" vs.toArray 0) := Heap.get?_push_size _ rfl
  have keep1 : ∀ b o, h1.get? b = some o → (h1.push (seqObj "list" vs.toArray 0)).get? b = some o := fun b o q => Heap.get?_push_of_some _ q
  refine wpAny_bind (wpAny_holding (wpAny_call_entry slot_list_sort ⟨_, hoL, rfl⟩ entry_list_sort (list_sort (O := O) (key := key) (κ := κ) hoL h64
    (fun h2 => ask h2 _ _ (fun b o e => Nat.ne_of_lt (Heap.lt_size (hk b o e))) fun b o e => keep1 b o (hk b o e)) fun out hp => ⟨_, rfl, ?_⟩) (args_list_sort _)))
  refine wpAny_pure ⟨_, rfl, ?_⟩
  obtain ⟨c, hc⟩ := sortedHeap_at (vs := vs) (out := (out.map fun i => vs.getD i Value.none).toArray) hoL
  refine h h1 _ _ _ out c hp hk (Nat.le_refl _) (fun b o e => ?_) hc
  have hb : b < h1.objs.size := Heap.lt_size e
  rw [sortedHeap_old (Nat.ne_of_lt hb) (by rw [Heap.size_push]; exact Nat.lt_succ_of_lt hb)]
  exact keep1 b o e
end SortT
namespace L2
open PySem PySem.Spec PyProof.Rows
/-! ### sorting tuples of ints -/
theorem lex_irrefl : ∀ a : List Int, HT.lexLt a a = false
  | [] => rfl
  | x :: r => by rw [HT.lexLt_cons, if_pos rfl]; exact lex_irrefl r
theorem lex_trans : ∀ a b c : List Int, HT.lexLt a b = true → HT.lexLt b c = true → HT.lexLt a c = true
  | [], [], _, h, _ => by cases h
  | [], _ :: _, [], _, h => by cases h
  | [], _ :: _, _ :: _, _, _ => rfl
  | _ :: _, [], _, h, _ => by cases h
  | _ :: _, _ :: _, [], _, h => by cases h
  | x :: a, y :: b, z :: c, h1, h2 => by
    rw [HT.lexLt_cons] at h1 h2 ⊢
    by_cases e1 : x = y
    · subst e1
      rw [if_pos rfl] at h1
      by_cases e2 : x = z
      · subst e2
        rw [if_pos rfl] at h2 ⊢
        exact lex_trans a b c h1 h2
      · rw [if_neg e2] at h2 ⊢; exact h2
    · rw [if_neg e1] at h1
      have l1 : x < y := of_decide_eq_true h1
      by_cases e2 : y = z
      · subst e2; rw [if_neg e1]; exact h1
      · rw [if_neg e2] at h2
        have l2 : y < z := of_decide_eq_true h2
        rw [if_neg (by omega)]
        exact decide_eq_true (by omega)
theorem lex_total : ∀ a b : List Int, HT.lexLt a b = false → HT.lexLt b a = false → a = b
  | [], [], _, _ => rfl
  | [], _ :: _, h, _ => by cases h
  | _ :: _, [], _, h => by cases h
  | x :: a, y :: b, h1, h2 => by
    rw [HT.lexLt_cons] at h1 h2
    by_cases e : x = y
    · subst e
      rw [if_pos rfl] at h1 h2
      rw [lex_total a b h1 h2]
    · rw [if_neg e] at h1
      rw [if_neg (Ne.symm e)] at h2
      have l1 := of_decide_eq_false h1
      have l2 := of_decide_eq_false h2
      omega
theorem lex_neg (a b c : List Int) (h : HT.lexLt a c = true) : HT.lexLt a b = true ∨ HT.lexLt b c = true := by
  cases h1 : HT.lexLt a b with
  | true => exact .inl rfl
  | false =>
    cases h2 : HT.lexLt b a with
    | true => exact .inr (lex_trans b a c h2 h)
    | false => rw [← lex_total a b h1 h2]; exact .inr h
def lexO : KeyOrd := ⟨List Int, HT.lexLt, lex_irrefl, lex_trans, lex_neg, lex_total⟩
/-- no tuple behind one that is greater -/
def Rises (ms : List (List Int)) : Prop := ms.Pairwise fun a b => HT.lexLt b a = false

/-- the values are tracked tuples of these ints, none of them empty -/
def TupsAre (H : Hp) : List V → List (List Int) → Prop
  | [], [] => True
  | x :: xs, k :: ks => (∃ a, x = .ref a ∧ H a = some (.tup (k.map V.int)) ∧ k ≠ []) ∧ TupsAre H xs ks
  | _, _ => False
theorem TupsAre.length {H : Hp} : ∀ {xs : List V} {ks : List (List Int)}, TupsAre H xs ks → xs.length = ks.length
  | [], [], _ => rfl
  | [], _ :: _, h => h.elim
  | _ :: _, [], h => h.elim
  | _ :: _, _ :: _, h => by rw [List.length_cons, List.length_cons, TupsAre.length h.2]
theorem TupsAre.get {H : Hp} : ∀ {xs : List V} {ks : List (List Int)} {i : Nat} {x : V}, TupsAre H xs ks → xs[i]? = some x → ∃ a k, x = .ref a ∧ ks[i]? = some k ∧ H a = some (.tup (k.map V.int)) ∧ k ≠ []
  | [], _, _, _, _, h => by simp at h
  | _ :: _, [], _, _, h, _ => h.elim
  | y :: _, k :: _, 0, x, h, e => by
    obtain ⟨⟨a, h1, h2, h3⟩, _⟩ := h
    have e' : y = x := by simpa using e
    subst e'
    exact ⟨a, k, h1, rfl, h2, h3⟩
  | _ :: _, _ :: _, i + 1, x, h, e => by
    obtain ⟨a, k, h1, h2, h3⟩ := TupsAre.get (i := i) h.2 (by simpa using e)
    exact ⟨a, k, h1, by simpa using h2, h3⟩
theorem TupsAre.mk {H : Hp} : ∀ {xs : List V} {ks : List (List Int)}, xs.length = ks.length → (∀ (i : Nat) (x : V) (k : List Int), xs[i]? = some x → ks[i]? = some k → ∃ a, x = V.ref a ∧ H a = some (.tup (k.map V.int)) ∧ k ≠ []) → TupsAre H xs ks
  | [], [], _, _ => trivial
  | [], _ :: _, e, _ => by simp at e
  | _ :: _, [], e, _ => by simp at e
  | x :: xs, k :: ks, e, h => ⟨h 0 x k rfl rfl, TupsAre.mk (by simpa using e) fun i x' k' h1 h2 => h (i + 1) x' k' (by simpa using h1) (by simpa using h2)⟩
theorem TupsAre.keep {H H' : Hp} {xs : List V} {ks : List (List Int)} (h : TupsAre H xs ks) (k : ∀ b ys, H b = some (.tup ys) → H' b = some (.tup ys)) : TupsAre H' xs ks :=
  TupsAre.mk h.length fun i x c h1 h2 => by
    obtain ⟨a, c', e1, e2, e3, e4⟩ := h.get h1
    rw [h2] at e2
    cases e2
    exact ⟨a, e1, k a _ e3, e4⟩
theorem TupsAre.snoc {H : Hp} : ∀ {xs : List V} {ks : List (List Int)} {x : V} {k : List Int}, TupsAre H xs ks → (∃ a, x = .ref a ∧ H a = some (.tup (k.map V.int)) ∧ k ≠ []) → TupsAre H (xs ++ [x]) (ks ++ [k])
  | [], [], _, _, _, h => ⟨h, trivial⟩
  | [], _ :: _, _, _, t, _ => t.elim
  | _ :: _, [], _, _, t, _ => t.elim
  | _ :: _, _ :: _, _, _, t, h => ⟨t.1, TupsAre.snoc t.2 h⟩

section
variable {prog : Program} {w : World} {A : Around} {s : Shared}
theorem katLex_ints {fin : Bool} {Q : Bool → Shared → Prop} : ∀ (ns ms : List Int) (us ws : List Value) (i : Nat), IntsAre us ns → IntsAre ws ms → fin = decide (ns.length < ms.length) → Q (HT.lexLt ns ms) s →
    PySem.W.KatLex prog w A true fin Q (us.zip ws) i s
  | [], [], _, _, _, .nil, .nil, e, q => by subst e; exact q
  | [], _ :: _, _, _, _, .nil, .cons _ _ _, e, q => by subst e; exact q
  | _ :: _, [], _, _, _, .cons _ _ _, .nil, e, q => by subst e; exact q
  | n :: ns, m :: ms, _, _, i, .cons _ t hu, .cons _ u hw, e, q => by
    rw [HT.lexLt_cons] at q
    refine PySem.W.kat_cons (wpAny_eqBool_int ?_)
    by_cases h : n = m
    · rw [if_pos h] at q
      rw [show (n == m) = true by simpa using h]
      exact PySem.W.kat_yes (katLex_ints ns ms _ _ (i + 1) hu hw (by rw [e]; simp) q)
    · rw [if_neg h] at q
      rw [show (n == m) = false by simpa using h]
      refine PySem.W.kat_no ?_
      cases i with
      | zero => exact oneLt_int q
      | succ j => exact PySem.W.kat_one _ _ (PyProof.Rows.lt_int q)

/-- the tuples that are asked stand at tracked addresses -/
theorem asks_tups {X : Cx} {pins : List (Addr × Obj)} {σ : St} {H : Hp} {s s' : Shared} {a : Addr} {ys : List V} {ks : List (List Int)} {vs : List Value} {A : Around} (I : Inv X pins σ H s) (T : TupsAre H ys ks) (r : Vals ys vs) (hne : 0 < vs.length)
    (fa : ∀ b o, s.heap.get? b = some o → b ≠ a) (kp : ∀ b o, s.heap.get? b = some o → s'.heap.get? b = some o) : SortT.Asks X.prog X.w A s' a vs (O := lexO) (fun i => ks.getD i []) (tuples' true) := by
  have hl := T.length
  have hv := r.length
  -- each value, by its place
  have at_ : ∀ (h' : Heap), (∀ b o, b ≠ a → s'.heap.get? b = some o → h'.get? b = some o) → ∀ i, i < vs.length → ∃ (p : Addr) (k : List Int) (us : List Value) (o : Obj) (n : Nat), vs[i]? = some (Value.ref p) ∧ ks[i]? = some k ∧ k ≠ [] ∧ IntsAre us k ∧ h'.get? p = some o ∧ o.cls = .type "tuple" ∧ o.data = .seq us.toArray n := fun h' kh i hi => by
    have hy : i < ys.length := by omega
    obtain ⟨p, k, e1, e2, e3, e4⟩ := T.get (i := i) (x := ys[i]) (by simp [hy])
    obtain ⟨u, hu, ru⟩ := r.get (i := i) (x := ys[i]) (by simp [hy])
    rw [e1] at ru
    cases (show u = Value.ref p from ru)
    obtain ⟨_, its, rv, o, ho, hc, n, hd⟩ := I.hok p _ e3
    exact ⟨p, k, its, o, n, hu, e2, e4, intsAre_of rv, kh p o (fa p o ho) (kp p o ho), hc, hd⟩
  refine ⟨fun h' Q E kh q => ?_, fun h' i j Q E kh hi hj q => ?_⟩
  · -- all keys are tuples whose first items are ints
    have tups : ∀ (m : Nat), m ≤ vs.length → ∃ fs : List Value, PySem.W.KatTups h' (vs.drop (vs.length - m)) fs ∧ fs.length = m ∧ ∀ f ∈ fs, ∃ x t, f = Value.int x t := by
      intro m
      induction m with
      | zero => intro _; exact ⟨[], by rw [Nat.sub_zero, List.drop_length]; exact trivial, rfl, fun f hf => by simp at hf⟩
      | succ m ih =>
        intro hm
        obtain ⟨fs, t, e, hf⟩ := ih (by omega)
        obtain ⟨p, k, us, o, n, hu, hk, hk0, hI, ho, hc, hd⟩ := at_ h' kh (vs.length - (m + 1)) (by omega)
        have ed : vs.drop (vs.length - (m + 1)) = Value.ref p :: vs.drop (vs.length - m) := by
          have hlt : vs.length - (m + 1) < vs.length := by omega
          rw [List.drop_eq_getElem_cons hlt, show vs.length - (m + 1) + 1 = vs.length - m by omega]
          have : vs[vs.length - (m + 1)] = Value.ref p := by
            rw [List.getElem?_eq_getElem hlt] at hu
            exact Option.some.inj hu
          rw [this]
        cases hI with
        | nil => exact absurd rfl hk0
        | cons x tx hI' =>
          refine ⟨Value.int x tx :: fs, by rw [ed]; exact PySem.W.KatTups.cons ho hc hd rfl t, by rw [List.length_cons, e], fun f hf' => ?_⟩
          rcases List.mem_cons.mp hf' with rfl | hf'
          · exact ⟨x, tx, rfl⟩
          · exact hf f hf'
    obtain ⟨fs, t, e, hf⟩ := tups vs.length (Nat.le_refl _)
    rw [Nat.sub_self, List.drop_zero] at t
    refine PySem.W.kat_kind (T := Value.type "int") t (by omega) (fun v hv => ?_) (by rfl) q
    obtain ⟨x, tx, rfl⟩ := hf v hv
    exact PySem.W.Looks.of_pure rfl
  · obtain ⟨p, k, us, o, n, hu, hk, _, hI, ho, hc, hd⟩ := at_ h' kh i hi
    obtain ⟨p2, k2, us2, o2, n2, hu2, hk2, _, hI2, ho2, hc2, hd2⟩ := at_ h' kh j hj
    have e1 : vs.getD i Value.none = .ref p := by rw [List.getD_eq_getElem?_getD, hu]; rfl
    have e2 : vs.getD j Value.none = .ref p2 := by rw [List.getD_eq_getElem?_getD, hu2]; rfl
    have g1 : ks.getD i [] = k := by rw [List.getD_eq_getElem?_getD, hk]; rfl
    have g2 : ks.getD j [] = k2 := by rw [List.getD_eq_getElem?_getD, hk2]; rfl
    rw [e1, e2]
    refine PySem.W.kat_lt (s := { s' with heap := h' }) ho hd ho2 hd2 ?_
    have q' : Q (HT.lexLt k k2) { s' with heap := h' } := by
      have : lexO.blt (ks.getD i []) (ks.getD j []) = HT.lexLt k k2 := by rw [g1, g2]; rfl
      rw [← this]; exact q
    have l1 := hI.length
    have l2 := hI2.length
    exact katLex_ints k k2 us us2 0 hI hI2 (by simp only [List.size_toArray]; rw [l1, l2]) q'

/-- what is put in order: the values and their keys by the same places -/
theorem put_tups {H : Hp} {ys : List V} {ks : List (List Int)} {vs : List Value} {out : List Nat} (T : TupsAre H ys ks) (r : Vals ys vs) (p : SortT.Put (O := lexO) (fun i => ks.getD i []) vs.length out) :
    ∃ zs ms, TupsAre H zs ms ∧ ms.Perm ks ∧ Rises ms ∧ Vals zs (out.map fun i => vs.getD i Value.none) ∧ zs.length = ys.length := by
  have hl := T.length
  have hv := r.length
  have hb : ∀ i ∈ out, i < vs.length := fun i hi => List.mem_range.mp (p.perm.mem_iff.mp hi)
  refine ⟨out.map fun i => ys.getD i .non, out.map fun i => ks.getD i [], TupsAre.mk (by rw [List.length_map, List.length_map]) fun j x k hx hk => ?_, ?_, ?_, ?_, ?_⟩
  · rw [List.getElem?_map] at hx hk
    cases e : out[j]? with
    | none => rw [e] at hx; cases hx
    | some i =>
      rw [e] at hx hk
      have hi := hb i (List.mem_of_getElem? e)
      have hy : i < ys.length := by omega
      obtain ⟨a, c, e1, e2, e3, e4⟩ := T.get (i := i) (x := ys[i]) (by simp [hy])
      have ex : ys.getD i .non = x := Option.some.inj hx
      have ek : ks.getD i [] = k := Option.some.inj hk
      rw [List.getD_eq_getElem?_getD, List.getElem?_eq_getElem hy] at ex
      rw [List.getD_eq_getElem?_getD, e2] at ek
      have ex' : ys[i] = x := ex
      have ek' : c = k := ek
      subst ek'
      exact ⟨a, by rw [← ex']; exact e1, e3, e4⟩
  · have h1 := p.perm.map fun i => ks.getD i []
    have h2 : (List.range vs.length).map (fun i => ks.getD i []) = ks := by
      rw [show vs.length = ks.length by omega]
      apply List.ext_getElem?
      intro j
      rw [List.getElem?_map]
      by_cases hj : j < ks.length
      · rw [List.getElem?_range hj, List.getElem?_eq_getElem hj]; simp [hj]
      · rw [List.getElem?_eq_none (by rw [List.length_range]; omega), List.getElem?_eq_none (by omega)]; rfl
    rw [h2] at h1
    exact h1
  · refine List.pairwise_iff_getElem.mpr fun i j hi hj hij => ?_
    rw [List.length_map] at hi hj
    have := p.rise i j out[i] out[j] (Nat.le_of_lt hij) (by simp) (by simp)
    have h3 : HT.lexLt (ks.getD out[j] []) (ks.getD out[i] []) = false := this
    simpa using h3
  · have : ∀ l : List Nat, (∀ i ∈ l, i < vs.length) → Vals (l.map fun i => ys.getD i .non) (l.map fun i => vs.getD i Value.none) := by
      intro l
      induction l with
      | nil => intro _; exact .nil
      | cons i l ih =>
        intro h
        have hi := h i List.mem_cons_self
        have hy : i < ys.length := by omega
        obtain ⟨u, hu, ru⟩ := r.get (i := i) (x := ys[i]) (by simp [hy])
        refine .cons ?_ (ih fun j hj => h j (List.mem_cons_of_mem _ hj))
        show RelV (ys.getD i V.non) (vs.getD i Value.none)
        rw [List.getD_eq_getElem?_getD, List.getElem?_eq_getElem hy, List.getD_eq_getElem?_getD, hu]
        exact ru
    exact this out hb
  · rw [List.length_map, p.perm.length_eq, List.length_range]; omega

theorem sorted_fin {X : Cx} {pins : List (Addr × Obj)} {σ : St} {H : Hp} {s : Shared} {h' : Heap} {D : Addr} {c t' : Nat} {zs : List V} {us : List Value} (I : Inv X pins σ H s) (hD : s.heap.objs.size ≤ D) (kp : ∀ b o, s.heap.get? b = some o → h'.get? b = some o)
    (ho : h'.get? D = some (seqObj "list" us.toArray c)) (r : Vals zs us) (hz : zs.length ≤ sizeLine) : Inv X pins σ (upd H D (.lst zs)) { s with heap := h', toks := t' } :=
  I.laid kp hD (show ObjOk X.prog X.w _ _ _ (.lst zs) from ⟨hz, us, c, r, ho⟩)
end
section
variable {X : Cx}
/-- sorted of a list of tuples of ints: a new list of them -/
theorem call_sorted : CallR X (.builtin "sorted") (fun xs H Q => ∃ p ys ks, xs = [.ref p] ∧ SqL X.K H p ys ∧ TupsAre H ys ks ∧ ks.length < 64 ∧
    ∀ l zs ms, H l = none → TupsAre H zs ms → ms.Perm ks → Rises ms → Q (.ref l) (upd H l (.lst zs))) := by
  intro pins s σ H xs us Q I r h
  obtain ⟨p, ys, ks, rfl, hq, T, h64, q⟩ := h
  obtain ⟨u, rfl, rx⟩ := vals1 r
  cases rx
  obtain ⟨its, r', pl, hz⟩ := I.list hq
  have hl := T.length
  have hv := r'.length
  refine SortT.sorted_list (O := lexO) (key := fun i => ks.getD i []) (κ := tuples' true) pl.isList (by omega) (fun h2 s' a fa kp => asks_tups I T r' (by omega) fa kp) fun D h' out c pt hD kp ho => ?_
  obtain ⟨zs, ms, T2, hp, hr, rz, hlz⟩ := put_tups T r' pt
  exact ⟨.ref D, _, sorted_fin (t' := s.toks) I hD kp ho rz (by omega), rfl, q D zs ms (I.hok.fresh hD) T2 hp hr⟩
/-- sorted of a dict whose keys are tuples of ints -/
theorem call_sortedD (hc : X.calm = true) : CallR X (.builtin "sorted") (fun xs H Q => ∃ p kvs ks, xs = [.ref p] ∧ H p = some (.dT kvs) ∧ kvs.map (·.1) = ks.map (List.map Sum.inl) ∧ (∀ k ∈ ks, k ≠ []) ∧ ks.length < 64 ∧
    ∀ l zs ms, H l = none → TupsAre H zs ms → ms.Perm ks → Rises ms → Q (.ref l) (upd H l (.lst zs))) := by
  intro pins s σ H xs us Q I r h
  obtain ⟨p, kvs, ks, rfl, hd, hks, hk0, h64, q⟩ := h
  obtain ⟨u, rfl, rx⟩ := vals1 r
  cases rx
  obtain ⟨hz, lo, xs, rel, o, es, ep, ho, hx, hdat, hes, hnd⟩ := I.hok p _ hd
  -- the keys as values
  have key : ∀ (kvs : List (List Key × V)) (xs : List (List Key × Addr × Value)) (ks : List (List Int)), KT H kvs xs → kvs.map (·.1) = ks.map (List.map Sum.inl) → (∀ k ∈ ks, k ≠ []) →
      TupsAre H (xs.map fun q => V.ref q.2.1) ks ∧ Vals (xs.map fun q => V.ref q.2.1) ((xs.map (entryOfKey (tupleKind (mixKind X.prog X.w)))).map (·.key)) := by
    intro kvs xs ks rel
    induction rel generalizing ks with
    | nil =>
      intro e _
      cases ks with
      | nil => exact ⟨trivial, .nil⟩
      | cons k ks => simp at e
    | cons hpq _ ih =>
      intro e h0
      cases ks with
      | nil => simp at e
      | cons k ks =>
        simp only [List.map_cons, List.cons.injEq] at e
        obtain ⟨T, V⟩ := ih ks e.2 fun c hc => h0 c (List.mem_cons_of_mem _ hc)
        obtain ⟨e1, e2, _⟩ := hpq
        refine ⟨⟨⟨_, rfl, ?_, h0 k List.mem_cons_self⟩, T⟩, .cons rfl V⟩
        rw [e2, e.1, List.map_map]
        rfl
  obtain ⟨T, rv⟩ := key kvs xs ks rel hks hk0
  have hl := T.length
  have hv := rv.length
  have evs : (xs.map (entryOfKey (tupleKind (mixKind X.prog X.w)))).map (·.key) = es.toList.map (·.key) := by rw [hes]
  refine SortT.sorted_dict (O := lexO) (key := fun i => ks.getD i []) (κ := tuples' true) (vs := (xs.map (entryOfKey (tupleKind (mixKind X.prog X.w)))).map (·.key)) (I.ok.hd hc) lo ⟨o, ho, hx, hdat⟩ evs (by omega) (fun h2 s' a fa kp => asks_tups I T rv (by omega) fa kp) fun h1 D h' t' out c pt k1 hD k2 ho => ?_
  obtain ⟨zs, ms, T2, hp, hr, rz, hlz⟩ := put_tups T rv pt
  have I1 : Inv X pins σ H { s with heap := h1, toks := s.toks } := I.kept k1
  refine ⟨.ref D, _, sorted_fin (s := { s with heap := h1, toks := s.toks }) (t' := t') I1 hD k2 ho rz ?_, rfl, q D zs ms (I1.hok.fresh hD) T2 hp hr⟩
  have : sizeLine = 16777216 := rfl
  omega
end
end L2
namespace L2
open PySem PySem.Spec PyProof.Rows
/-! ### repr of data -/
mutual
inductive Shows (H : Hp) : V → PyData → Prop
  | non : Shows H .non .none
  | bl (b : Bool) : Shows H (.bl b) (.bool b)
  | int (i : Int) : Shows H (.int i) (.int i)
  | str (x : Str) : Shows H (.str x) (.str x)
  | tup {a : Addr} {xs : List V} {ds : List PyData} : H a = some (.tup xs) → ShowsAll H xs ds → Shows H (.ref a) (.tuple ds)
  | lst {a : Addr} {xs : List V} {ds : List PyData} : H a = some (.lst xs) → ShowsAll H xs ds → Shows H (.ref a) (.list ds)
inductive ShowsAll (H : Hp) : List V → List PyData → Prop
  | nil : ShowsAll H [] []
  | cons {x : V} {xs : List V} {d : PyData} {ds : List PyData} : Shows H x d → ShowsAll H xs ds → ShowsAll H (x :: xs) (d :: ds)
end
section
variable {P : Program} {w : World} {H : Hp} {h : Heap}
mutual
theorem Shows.reads (ok : HOk P w H h) : ∀ {x : V} {d : PyData}, Shows H x d → ∀ {u : Value}, RelV x u → ∃ as, Reads h u d as
  | _, _, .non, u, r => by cases (show u = Value.none from r); exact ⟨_, .none⟩
  | _, _, .bl b, u, r => by cases (show u = Value.bool b from r); exact ⟨_, .bool b⟩
  | _, _, .int i, u, r => by obtain ⟨t, rfl⟩ := r; exact ⟨_, .int i t⟩
  | _, _, .str x, u, r => by obtain ⟨t, rfl⟩ := r; exact ⟨_, .str x t⟩
  | _, _, .tup (a := a) e s, u, r => by
    cases (show u = Value.ref a from r)
    obtain ⟨_, its, rv, o, ho, hc, n, hd⟩ := ok a _ e
    obtain ⟨as, ra⟩ := ShowsAll.reads ok s rv
    exact ⟨_, .tuple ho hc hd (by simpa using ra)⟩
  | _, _, .lst (a := a) e s, u, r => by
    cases (show u = Value.ref a from r)
    obtain ⟨_, its, n, rv, ho⟩ := ok a _ e
    obtain ⟨as, ra⟩ := ShowsAll.reads ok s rv
    exact ⟨_, .list ho rfl rfl (by simpa using ra)⟩
theorem ShowsAll.reads (ok : HOk P w H h) : ∀ {xs : List V} {ds : List PyData}, ShowsAll H xs ds → ∀ {us : List Value}, Vals xs us → ∃ as, ReadsAll h us ds as
  | _, _, .nil, us, r => by cases r; exact ⟨_, .nil⟩
  | _, _, .cons s t, us, r => by
    cases r with
    | cons r1 r2 =>
      obtain ⟨a1, h1⟩ := Shows.reads ok s r1
      obtain ⟨a2, h2⟩ := ShowsAll.reads ok t r2
      exact ⟨_, .cons h1 h2⟩
end
end
/-- small enough to be shown: its weight, its depth -/
structure Fn (n p : Nat) (d : PyData) : Prop where
  wt : d.weight ≤ n
  dp : d.depth ≤ p
  cl : d.canLay0 = true
  sh : d.intsShort 13 = true
  sw : d.showable = true
theorem Fn.mono {n p n' p' : Nat} {d : PyData} (h : Fn n p d) (hn : n ≤ n') (hp : p ≤ p') : Fn n' p' d := ⟨Nat.le_trans h.wt hn, Nat.le_trans h.dp hp, h.cl, h.sh, h.sw⟩
theorem fn_none : Fn 0 0 .none := ⟨Nat.le_refl _, Nat.le_refl _, rfl, rfl, rfl⟩
theorem fn_bool (b : Bool) : Fn 0 0 (.bool b) := ⟨Nat.le_refl _, Nat.le_refl _, rfl, rfl, rfl⟩
theorem log2_small {i : Int} (h : i.natAbs < 1000000000) : i.natAbs.log2 < 30 := by
  by_cases h0 : i.natAbs = 0
  · rw [h0]; decide
  · exact (Nat.log2_lt h0).mpr (by omega)
theorem fn_int {i : Int} (h : i.natAbs < 1000000000) : Fn 30 0 (.int i) := by
  have hl := log2_small h
  refine ⟨?_, Nat.le_refl _, rfl, ?_, ?_⟩
  · simp only [PyData.weight]
    split <;> omega
  · simp only [PyData.intsShort, PyData.shown]
    refine decide_eq_true ?_
    have e := int_text_length_le10 (a := i) (k := 9) (by decide) (by simpa using h)
    have e2 : (Str.ofString (toString i)).length = (toString i).length := by
      rw [Str.ofString_eq_toList]
      show ((toString i).toList.map Char.toNat).toArray.size = _
      rw [List.size_toArray, List.length_map, String.length_toList]
    show (Str.ofString (toString i)).length ≤ 13
    omega
  · simp only [PyData.showable]
    exact decide_eq_true (by omega)
theorem fn_all {n p : Nat} : ∀ {ds : List PyData}, (∀ d ∈ ds, Fn n p d) → PyData.weightAll ds ≤ ds.length * (n + 1) ∧ PyData.depthAll ds ≤ p ∧ PyData.canLayAll0 ds = true ∧ PyData.intsShortAll 13 ds = true ∧ PyData.showableAll ds = true
  | [], _ => ⟨by simp [PyData.weightAll], by simp [PyData.depthAll], by simp [PyData.canLayAll0], by simp [PyData.intsShortAll], by simp [PyData.showableAll]⟩
  | d :: ds, h => by
    obtain ⟨a, b, c, e, f⟩ := fn_all (ds := ds) fun x hx => h x (List.mem_cons_of_mem _ hx)
    have g := h d List.mem_cons_self
    refine ⟨?_, ?_, ?_, ?_, ?_⟩
    · simp only [PyData.weightAll, List.length_cons]
      have := g.wt
      rw [Nat.add_mul]
      omega
    · simp only [PyData.depthAll]
      have := g.dp
      omega
    · simp only [PyData.canLayAll0, g.cl, c, Bool.and_self]
    · simp only [PyData.intsShortAll, g.sh, e, Bool.and_self]
    · simp only [PyData.showableAll, g.sw, f, Bool.and_self]
theorem fn_tup {n p L : Nat} {ds : List PyData} (h : ∀ d ∈ ds, Fn n p d) (hl : ds.length ≤ L) : Fn (L * (n + 1)) (p + 1) (.tuple ds) := by
  obtain ⟨a, b, c, e, f⟩ := fn_all h
  refine ⟨?_, ?_, ?_, ?_, ?_⟩
  · simp only [PyData.weight]
    exact Nat.le_trans a (Nat.mul_le_mul_right _ hl)
  · simp only [PyData.depth]; omega
  · simp only [PyData.canLay0]; exact c
  · simp only [PyData.intsShort]; exact e
  · simp only [PyData.showable]; exact f
theorem Fn.len {n p : Nat} {d : PyData} (h : Fn n p d) (hn : n ≤ 1048576) (hp : p ≤ 60) : d.shown.length ≤ sizeLine ∧ d.hasDict = false := by
  have hl : PyData.layable0 d = true := by
    show (PyData.canLay0 d && decide (PyData.depth d ≤ 64) && decide (PyData.weight d ≤ 2 ^ 20)) = true
    rw [h.cl, decide_eq_true (show PyData.depth d ≤ 64 by have := h.dp; omega), decide_eq_true (show PyData.weight d ≤ 2 ^ 20 by have := h.wt; omega)]
    rfl
  have e := shown_le13 hl h.sh
  have : sizeLine = 16777216 := rfl
  exact ⟨by omega, PyData.hasDict_of_layable hl⟩
section
variable {X : Cx}
theorem call_repr {k : Nat} (hr : Room k X.A) : CallR X (.builtin "repr") (fun xs H Q => ∃ x d, xs = [x] ∧ Shows H x d ∧ Fn 1048576 50 d ∧ Q (.str d.shown) H) := by
  intro pins s σ H xs us Q I r h
  obtain ⟨x, d, rfl, sh, f, q⟩ := h
  obtain ⟨u, rfl, rx⟩ := vals1 r
  obtain ⟨hz, hnd⟩ := f.len (Nat.le_refl _) (by decide)
  have hu := hr.units
  cases sh with
  | non =>
    cases (show u = Value.none from rx)
    exact PySem.P.repr_of_none ⟨.str _, H, I.tok _, ⟨_, rfl⟩, by simpa only [PyData.shown] using q⟩
  | bl b =>
    cases (show u = Value.bool b from rx)
    exact PySem.P.repr_of_bool ⟨.str _, H, I.tok _, ⟨_, rfl⟩, by simpa only [PyData.shown] using q⟩
  | int i =>
    obtain ⟨t, rfl⟩ := rx
    exact PySem.P.repr_of_int (by have := f.sw; simpa only [PyData.showable, decide_eq_true_eq] using this) ⟨.str _, H, I.tok _, ⟨_, rfl⟩, by simpa only [PyData.shown] using q⟩
  | str z =>
    obtain ⟨t, rfl⟩ := rx
    exact PySem.P.repr_of_str ⟨.str _, H, I.tok _, ⟨_, rfl⟩, by simpa only [PyData.shown] using q⟩ (by simpa only [PyData.shown] using hz)
  | tup e al =>
    cases (show u = Value.ref _ from rx)
    obtain ⟨as, rd⟩ := Shows.reads I.hok (.tup e al) (u := .ref _) rfl
    exact repr_of_reads' rd f.sw (PyData.noDict_hsm hnd) hr.gd (by have := f.dp; omega) (fun _ _ e => e) (fun h' u tk hk => ⟨.str _, H, I.kept hk, ⟨u, rfl⟩, q⟩) hz
  | lst e al =>
    cases (show u = Value.ref _ from rx)
    obtain ⟨as, rd⟩ := Shows.reads I.hok (.lst e al) (u := .ref _) rfl
    exact repr_of_reads' rd f.sw (PyData.noDict_hsm hnd) hr.gd (by have := f.dp; omega) (fun _ _ e => e) (fun h' u tk hk => ⟨.str _, H, I.kept hk, ⟨u, rfl⟩, q⟩) hz
end
end L2
namespace L2
open PySem PySem.Spec PyProof.Rows
/-! ### items that are written: quick to meet -/
section
variable {X : Cx} {es xs : List Expr} {t t1 : TA}
theorem pa_int {i j pos} (hr : PA X es t) : PA X (.Constant (.int i) j pos :: es) (tCons (tC (.int i)) t) := pa_cons pe_int hr (by rfl)
theorem pa_lst {pos} (h : PA X xs t1) (hr : PA X es t) : PA X (.List xs pos :: es) (tCons (tLst t1) t) := pa_cons (pe_lst h) hr (by rfl)
end
/-- ints as they are written -/
inductive LitInts : List Expr → List Int → Prop where
  | nil : LitInts [] []
  | cons {i : Int} {j : Nat} {pos : Pos} {es : List Expr} {ns : List Int} : LitInts es ns → LitInts (.Constant (.int i) j pos :: es) (i :: ns)
theorem pa_lits {X : Cx} {es : List Expr} {ns : List Int} (h : LitInts es ns) : PA X es (fun _ H Q => Q (ns.map V.int) H) := by
  induction h with
  | nil => exact pa_nil
  | cons _ ih =>
    intro pos pins s σ H Q I q
    exact (pa_int ih) pos pins s σ H Q I q
inductive LitIntss : List Expr → List (List Int) → Prop where
  | nil : LitIntss [] []
  | cons {xs : List Expr} {ns : List Int} {pos : Pos} {es : List Expr} {nss : List (List Int)} : LitInts xs ns → ns.length ≤ sizeLine → LitIntss es nss → LitIntss (.List xs pos :: es) (ns :: nss)
def tLitss : List (List Int) → TA
  | [] => tNil
  | ns :: r => fun σ H Q => ∀ p, H p = none → tLitss r σ (upd H p (.lst (ns.map V.int))) fun xs H2 => Q (.ref p :: xs) H2
theorem pa_litss {X : Cx} {es : List Expr} {nss : List (List Int)} (h : LitIntss es nss) : PA X es (tLitss nss) := by
  induction h with
  | nil => exact pa_nil
  | cons hx hl _ ih =>
    intro pos pins s σ H Q I q
    exact (pa_lst (pa_lits hx) ih) pos pins s σ H Q I ⟨by rw [List.length_map]; exact hl, fun p hp => q p hp⟩
end L2
/-! ### lists without repetitions -/
namespace WM
theorem nd_sub {α : Type} [DecidableEq α] : ∀ {l₁ l₂ : List α}, l₁.Nodup → (∀ x ∈ l₁, x ∈ l₂) → l₁.length ≤ l₂.length
  | [], _, _, _ => Nat.zero_le _
  | x :: r, l₂, h, s => by
    obtain ⟨h1, h2⟩ := List.nodup_cons.mp h
    have hx : x ∈ l₂ := s x List.mem_cons_self
    have ih := nd_sub (l₁ := r) (l₂ := l₂.erase x) h2 fun y hy => by
      have hne : y ≠ x := fun e => h1 (e ▸ hy)
      exact (List.mem_erase_of_ne hne).mpr (s y (List.mem_cons_of_mem _ hy))
    rw [List.length_erase_of_mem hx] at ih
    have : 0 < l₂.length := List.length_pos_of_mem hx
    rw [List.length_cons]
    omega
theorem nd_same {α : Type} [DecidableEq α] {l₁ l₂ : List α} (h₁ : l₁.Nodup) (h₂ : l₂.Nodup) (h : ∀ x, x ∈ l₁ ↔ x ∈ l₂) : l₁.length = l₂.length :=
  Nat.le_antisymm (nd_sub h₁ fun x hx => (h x).mp hx) (nd_sub h₂ fun x hx => (h x).mpr hx)
def lowTo (n : Nat) : List Int := (List.range n).map fun (i : Nat) => (i : Int)
theorem mem_ints {n : Nat} {x : Int} : x ∈ lowTo n ↔ 0 ≤ x ∧ x < n := by
  unfold lowTo
  rw [List.mem_map]
  constructor
  · rintro ⟨i, hi, rfl⟩
    have := List.mem_range.mp hi
    omega
  · rintro ⟨h0, h1⟩
    exact ⟨x.toNat, List.mem_range.mpr (by omega), by omega⟩
theorem nd_len {n : Nat} {l : List Int} (h : l.Nodup) (hb : ∀ x ∈ l, 0 ≤ x ∧ x < n) : l.length ≤ n := by
  have := nd_sub h (l₂ := lowTo n) fun x hx => mem_ints.mpr (hb x hx)
  simpa [lowTo] using this
/-- two rising lists with the same members are one -/
theorem rise_same : ∀ {l₁ l₂ : List Int}, l₁.Pairwise (· < ·) → l₂.Pairwise (· < ·) → (∀ x, x ∈ l₁ ↔ x ∈ l₂) → l₁ = l₂
  | [], [], _, _, _ => rfl
  | [], y :: _, _, _, h => by have := (h y).mpr List.mem_cons_self; simp at this
  | x :: _, [], _, _, h => by have := (h x).mp List.mem_cons_self; simp at this
  | x :: r, y :: q, h1, h2, h => by
    obtain ⟨a1, b1⟩ := List.pairwise_cons.mp h1
    obtain ⟨a2, b2⟩ := List.pairwise_cons.mp h2
    have e : x = y := by
      rcases List.mem_cons.mp ((h x).mp List.mem_cons_self) with e | e
      · exact e
      · rcases List.mem_cons.mp ((h y).mpr List.mem_cons_self) with e' | e'
        · exact e'.symm
        · have := a2 x e; have := a1 y e'; omega
    subst e
    refine congrArg (x :: ·) (rise_same b1 b2 fun z => ?_)
    constructor
    · intro hz
      rcases List.mem_cons.mp ((h z).mp (List.mem_cons_of_mem _ hz)) with e | e
      · subst e; have := a1 z hz; omega
      · exact e
    · intro hz
      rcases List.mem_cons.mp ((h z).mpr (List.mem_cons_of_mem _ hz)) with e | e
      · subst e; have := a2 z hz; omega
      · exact e
theorem ints_rise (n : Nat) : (lowTo n).Pairwise (· < ·) := by
  unfold lowTo
  rw [List.pairwise_map]
  exact List.pairwise_lt_range.imp fun h => by omega

/-! ### ties -/
abbrev T3 := Int × Int × Int
def tl (t : T3) : List Int := [t.1, t.2.1, t.2.2]
structure GW (n : Int) (ts : List T3) : Prop where
  n1 : 1 ≤ n
  n24 : n ≤ 24
  len : ts.length < 64
  rng : ∀ t ∈ ts, 0 ≤ t.1 ∧ t.1 < t.2.1 ∧ t.2.1 < n ∧ 1 ≤ t.2.2 ∧ t.2.2 ≤ 99
  dis : ts.Pairwise fun s t => ¬ (s.1 = t.1 ∧ s.2.1 = t.2.1)
/-- y beside x by a tie of that long -/
def Adj (ts : List T3) (x y l : Int) : Prop := (x, y, l) ∈ ts ∨ (y, x, l) ∈ ts
theorem Adj.symm {ts : List T3} {x y l : Int} (h : Adj ts x y l) : Adj ts y x l := h.elim .inr .inl
theorem GW.uniq {n : Int} {ts : List T3} (g : GW n ts) {x y l l' : Int} (h : Adj ts x y l) (h' : Adj ts x y l') : l = l' := by
  have key : ∀ {ts : List T3}, ts.Pairwise (fun s t => ¬ (s.1 = t.1 ∧ s.2.1 = t.2.1)) → ∀ {a b l l' : Int}, (a, b, l) ∈ ts → (a, b, l') ∈ ts → l = l' := by
    intro ts
    induction ts with
    | nil => intro _ a b l l' h; simp at h
    | cons t r ih =>
      intro hp a b l l' h h'
      obtain ⟨q, hr⟩ := List.pairwise_cons.mp hp
      rcases List.mem_cons.mp h with e | e
      · rcases List.mem_cons.mp h' with e' | e'
        · rw [← e] at e'; injection e' with _ e2; injection e2 with _ e3; exact e3.symm
        · exact absurd (by rw [← e]; exact ⟨rfl, rfl⟩) (q _ e')
      · rcases List.mem_cons.mp h' with e' | e'
        · exact absurd (by rw [← e']; exact ⟨rfl, rfl⟩) (q _ e)
        · exact ih hr e e'
  rcases h with h | h <;> rcases h' with h' | h'
  · exact key g.dis h h'
  · have := g.rng _ h; have := g.rng _ h'; simp only at *; omega
  · have := g.rng _ h; have := g.rng _ h'; simp only at *; omega
  · exact key g.dis h h'
theorem GW.adj {n : Int} {ts : List T3} (g : GW n ts) {x y l : Int} (h : Adj ts x y l) : 0 ≤ x ∧ x < n ∧ 0 ≤ y ∧ y < n ∧ x ≠ y ∧ 1 ≤ l ∧ l ≤ 99 := by
  rcases h with h | h <;> (have := g.rng _ h; simp only at *; omega)
/-- what ties_at finds at p, in the ties' order -/
def fd (p : Int) : List T3 → List (List Int)
  | [] => []
  | t :: r => (if t.1 = p then [[t.2.1, t.2.2]] else []) ++ (if t.2.1 = p then [[t.1, t.2.2]] else []) ++ fd p r
theorem fd_append (p : Int) : ∀ a b : List T3, fd p (a ++ b) = fd p a ++ fd p b
  | [], b => rfl
  | t :: r, b => by show _ ++ _ ++ fd p (r ++ b) = _; rw [fd_append p r b]; simp [fd, List.append_assoc]
theorem mem_fd {p : Int} {k : List Int} : ∀ {ts : List T3}, k ∈ fd p ts ↔ ∃ y l, k = [y, l] ∧ Adj ts p y l
  | [] => by simp [fd, Adj]
  | (a, b, c) :: r => by
    have ih := mem_fd (p := p) (k := k) (ts := r)
    show k ∈ _ ++ _ ++ fd p r ↔ _
    rw [List.mem_append, List.mem_append, ih]
    simp only
    constructor
    · rintro ((h | h) | ⟨y, l, e, h⟩)
      · split at h
        · rename_i e; simp at h; subst e; exact ⟨b, c, h, .inl List.mem_cons_self⟩
        · simp at h
      · split at h
        · rename_i e; simp at h; subst e; exact ⟨a, c, h, .inr List.mem_cons_self⟩
        · simp at h
      · exact ⟨y, l, e, h.elim (fun z => .inl (List.mem_cons_of_mem _ z)) fun z => .inr (List.mem_cons_of_mem _ z)⟩
    · rintro ⟨y, l, e, h⟩
      rcases h with h | h
      · rcases List.mem_cons.mp h with q | q
        · injection q with q1 q2; injection q2 with q2 q3; subst q1 q2 q3
          exact .inl (.inl (by simp [e]))
        · exact .inr ⟨y, l, e, .inl q⟩
      · rcases List.mem_cons.mp h with q | q
        · injection q with q1 q2; injection q2 with q2 q3; subst q1 q2 q3
          exact .inl (.inr (by simp [e]))
        · exact .inr ⟨y, l, e, .inr q⟩
theorem fd_len {n : Int} (p : Int) : ∀ {ts : List T3}, (∀ t ∈ ts, t.1 < t.2.1) → (fd p ts).length ≤ ts.length
  | [], _ => Nat.le_refl _
  | t :: r, h => by
    have ih := fd_len (n := n) p (ts := r) fun t ht => h t (List.mem_cons_of_mem _ ht)
    have h0 := h t List.mem_cons_self
    show (_ ++ _ ++ fd p r).length ≤ _
    rw [List.length_append, List.length_append, List.length_cons]
    have : (if t.1 = p then [[t.2.1, t.2.2]] else ([] : List (List Int))).length + (if t.2.1 = p then [[t.1, t.2.2]] else ([] : List (List Int))).length ≤ 1 := by
      split <;> split <;> simp <;> omega
    omega
def hd (k : List Int) : Int := k.getD 0 0
/-- the heads differ -/
theorem fd_heads {n : Int} {ts : List T3} (g : GW n ts) (p : Int) : ((fd p ts).map hd).Nodup := by
  have key : ∀ (ts : List T3), (∀ t ∈ ts, t.1 < t.2.1) → ts.Pairwise (fun s t => ¬ (s.1 = t.1 ∧ s.2.1 = t.2.1)) → ((fd p ts).map hd).Nodup := by
    intro ts
    induction ts with
    | nil => intro _ _; exact List.nodup_nil
    | cons t r ih =>
      intro hlt hp
      obtain ⟨q, hr⟩ := List.pairwise_cons.mp hp
      have h0 := hlt t List.mem_cons_self
      have hr' : ∀ t ∈ r, t.1 < t.2.1 := fun t ht => hlt t (List.mem_cons_of_mem _ ht)
      have ih' := ih hr' hr
      have no : ∀ y c, (∀ l, Adj r p y l → False) → ([y, c] : List Int) = [y, c] → ¬ y ∈ (fd p r).map hd := by
        intro y c hn _ hm
        obtain ⟨k, hk, e⟩ := List.mem_map.mp hm
        obtain ⟨y', l, ek, ha⟩ := mem_fd.mp hk
        subst ek
        have : y' = y := e
        subst this
        exact hn l ha
      show ((_ ++ _ ++ fd p r).map hd).Nodup
      by_cases h1 : t.1 = p
      · have h2 : ¬ t.2.1 = p := by omega
        rw [if_pos h1, if_neg h2]
        show (t.2.1 :: (fd p r).map hd).Nodup
        refine List.nodup_cons.mpr ⟨no _ t.2.2 (fun l ha => ?_) rfl, ih'⟩
        rcases ha with ha | ha
        · exact q _ ha ⟨h1, rfl⟩
        · have := hr' _ ha; simp only at this; omega
      · by_cases h2 : t.2.1 = p
        · rw [if_neg h1, if_pos h2]
          show (t.1 :: (fd p r).map hd).Nodup
          refine List.nodup_cons.mpr ⟨no _ t.2.2 (fun l ha => ?_) rfl, ih'⟩
          rcases ha with ha | ha
          · have := hr' _ ha; simp only at this; omega
          · exact q _ ha ⟨rfl, h2⟩
        · rw [if_neg h1, if_neg h2]
          exact ih'
  exact key ts (fun t ht => (g.rng t ht).2.1) g.dis

/-! ### going along ties -/
inductive Rch (ts : List T3) : Int → Prop where
  | z : Rch ts 0
  | s {x y l : Int} : Rch ts x → Adj ts x y l → Rch ts y
/-- closed lists that hold 0 and only what is come to have all that is come to -/
theorem rch_all {ts : List T3} {l : List Int} (h0 : 0 ∈ l) (hc : ∀ x ∈ l, ∀ y k, Adj ts x y k → y ∈ l) {x : Int} (h : Rch ts x) : x ∈ l := by
  induction h with
  | z => exact h0
  | s _ ha ih => exact hc _ ih _ _ ha
theorem whole_same {ts : List T3} {l₁ l₂ : List Int} (n₁ : l₁.Nodup) (n₂ : l₂.Nodup) (z₁ : 0 ∈ l₁) (z₂ : 0 ∈ l₂) (c₁ : ∀ x ∈ l₁, ∀ y k, Adj ts x y k → y ∈ l₁) (c₂ : ∀ x ∈ l₂, ∀ y k, Adj ts x y k → y ∈ l₂)
    (r₁ : ∀ x ∈ l₁, Rch ts x) (r₂ : ∀ x ∈ l₂, Rch ts x) : l₁.length = l₂.length :=
  nd_same n₁ n₂ fun x => ⟨fun h => rch_all z₂ c₂ (r₁ x h), fun h => rch_all z₁ c₁ (r₂ x h)⟩
end WM
/-! ### lengths of ways -/
namespace WM
inductive Way (ts : List T3) : Int → Int → Int → Prop where
  | nil (x : Int) : Way ts x x 0
  | cons {x z y l d : Int} : Adj ts x z l → Way ts z y d → Way ts x y (l + d)
theorem Way.nn {n : Int} {ts : List T3} (g : GW n ts) {x y d : Int} (h : Way ts x y d) : 0 ≤ d := by
  induction h with
  | nil => exact Int.le_refl _
  | cons ha _ ih => have := g.adj ha; omega
theorem Way.one {ts : List T3} {x y l : Int} (h : Adj ts x y l) : Way ts x y l := by
  have := Way.cons h (.nil y)
  rwa [Int.add_zero] at this
theorem Way.trans {ts : List T3} {x y z d e : Int} (h : Way ts x y d) (h' : Way ts y z e) : Way ts x z (d + e) := by
  induction h with
  | nil => rw [Int.zero_add]; exact h'
  | cons ha _ ih => rw [Int.add_assoc]; exact .cons ha (ih h')
theorem Way.symm {ts : List T3} {x y d : Int} (h : Way ts x y d) : Way ts y x d := by
  induction h with
  | nil => exact .nil _
  | cons ha _ ih => have := ih.trans (.one ha.symm); rwa [Int.add_comm] at this
theorem Way.snoc {ts : List T3} {x y z d l : Int} (h : Way ts x y d) (ha : Adj ts y z l) : Way ts x z (d + l) := h.trans (.one ha)
/-- d is the length from x to y -/
def IsD (ts : List T3) (x y d : Int) : Prop := Way ts x y d ∧ ∀ e, Way ts x y e → d ≤ e
/-- the length, told or none -/
def Len (ts : List T3) (x y : Int) : Option Int → Prop
  | some d => IsD ts x y d
  | none => ∀ d, ¬ Way ts x y d
theorem IsD.uniq {ts : List T3} {x y d e : Int} (h : IsD ts x y d) (h' : IsD ts x y e) : d = e := Int.le_antisymm (h.2 _ h'.1) (h'.2 _ h.1)
theorem Len.uniq {ts : List T3} {x y : Int} {o o' : Option Int} (h : Len ts x y o) (h' : Len ts x y o') : o = o' := by
  cases o with
  | none =>
    cases o' with
    | none => rfl
    | some e => exact absurd h'.1 (h e)
  | some d =>
    cases o' with
    | none => exact absurd h.1 (h' d)
    | some e => exact congrArg some (IsD.uniq h h')
theorem IsD.symm {ts : List T3} {x y d : Int} (h : IsD ts x y d) : IsD ts y x d := ⟨h.1.symm, fun e he => h.2 e he.symm⟩
theorem Len.symm {ts : List T3} {x y : Int} {o : Option Int} (h : Len ts x y o) : Len ts y x o := by
  cases o with
  | none => exact fun d hd => h d hd.symm
  | some d => exact IsD.symm h
theorem isD_self {n : Int} {ts : List T3} (g : GW n ts) (x : Int) : IsD ts x x 0 := ⟨.nil x, fun _ h => h.nn g⟩

/-! ### the nearest first (what lengths_from does) -/
/-- known: settled places; wt: those that wait, with a length each -/
structure Dj (ts : List T3) (s : Int) (kn wt : Int → Option Int) : Prop where
  kd : ∀ p d, kn p = some d → IsD ts s p d
  wk : ∀ p d, wt p = some d → kn p = none ∧ Way ts s p d
  ord : ∀ p d q e, kn p = some d → wt q = some e → d ≤ e
  nb : ∀ p d q l, kn p = some d → Adj ts p q l → (∃ e, kn q = some e) ∨ ∃ e, wt q = some e ∧ e ≤ d + l
  st : (∃ d, kn s = some d) ∨ wt s = some 0
/-- on any way there is a place that waits, no farther than the way, unless its end is known -/
theorem Dj.front {n : Int} {ts : List T3} (g : GW n ts) {s : Int} {kn wt : Int → Option Int} (h : Dj ts s kn wt) {y d : Int} (w : Way ts s y d) : (∃ e, kn y = some e) ∨ ∃ q e, wt q = some e ∧ e ≤ d := by
  have key : ∀ {x y d : Int}, Way ts x y d → ∀ dx, kn x = some dx → (∃ e, kn y = some e) ∨ ∃ q e, wt q = some e ∧ e ≤ dx + d := by
    intro x y d w
    induction w with
    | nil => intro dx hx; exact .inl ⟨dx, hx⟩
    | cons ha w' ih =>
      intro dx hx
      rename_i x z y l d
      have hl := g.adj ha
      have hw := w'.nn g
      rcases h.nb x dx z l hx ha with ⟨e, he⟩ | ⟨e, he, hle⟩
      · have hez : e ≤ dx + l := (h.kd z e he).2 _ ((h.kd x dx hx).1.snoc ha)
        rcases ih e he with q | ⟨q, e', hq, hle⟩
        · exact .inl q
        · exact .inr ⟨q, e', hq, by omega⟩
      · exact .inr ⟨z, e, he, by omega⟩
  rcases h.st with ⟨ds, hs⟩ | hs
  · have : ds = 0 := IsD.uniq (h.kd s ds hs) (isD_self g s)
    subst this
    rcases key w 0 hs with q | ⟨q, e, a, b⟩
    · exact .inl q
    · exact .inr ⟨q, e, a, by omega⟩
  · exact .inr ⟨s, 0, hs, w.nn g⟩
/-- the nearest that waits has its length -/
theorem Dj.pick {n : Int} {ts : List T3} (g : GW n ts) {s : Int} {kn wt : Int → Option Int} (h : Dj ts s kn wt) {p d : Int} (hp : wt p = some d) (hm : ∀ q e, wt q = some e → d ≤ e) : IsD ts s p d := by
  obtain ⟨hk, hw⟩ := h.wk p d hp
  refine ⟨hw, fun e he => ?_⟩
  rcases h.front g he with ⟨e', q⟩ | ⟨q, e', hq, hle⟩
  · rw [hk] at q; cases q
  · exact Int.le_trans (hm q e' hq) hle
/-- where nothing waits all is told -/
theorem Dj.done {n : Int} {ts : List T3} (g : GW n ts) {s : Int} {kn wt : Int → Option Int} (h : Dj ts s kn wt) (hw : ∀ q, wt q = none) (y : Int) : Len ts s y (kn y) := by
  cases e : kn y with
  | some d => exact h.kd y d e
  | none =>
    intro d w
    rcases h.front g w with ⟨e', q⟩ | ⟨q, e', hq, _⟩
    · rw [e] at q; cases q
    · rw [hw] at hq; cases hq
/-- while p's neighbours are looked at: ms those that were -/
structure Dm (ts : List T3) (s p d : Int) (kn wt : Int → Option Int) (seen : Int → Prop) : Prop where
  kd : ∀ q e, kn q = some e → IsD ts s q e
  wk : ∀ q e, wt q = some e → kn q = none ∧ Way ts s q e
  ord : ∀ q e r f, kn q = some e → wt r = some f → e ≤ f
  nb : ∀ q e r l, kn q = some e → Adj ts q r l → (q = p ∧ ¬ seen r) ∨ (∃ f, kn r = some f) ∨ ∃ f, wt r = some f ∧ f ≤ e + l
  st : ∃ e, kn s = some e
  pd : kn p = some d
  mx : ∀ q e, kn q = some e → e ≤ d
theorem Dj.enter {n : Int} {ts : List T3} (g : GW n ts) {s : Int} {kn wt : Int → Option Int} (h : Dj ts s kn wt) {p d : Int} (hp : wt p = some d) (hm : ∀ q e, wt q = some e → d ≤ e) :
    Dm ts s p d (fun q => if q = p then some d else kn q) (fun q => if q = p then none else wt q) (fun _ => False) := by
  have hd := h.pick g hp hm
  have hk := (h.wk p d hp).1
  refine ⟨fun q e hq => ?_, fun q e hq => ?_, fun q e r f hq hr => ?_, fun q e r l hq ha => ?_, ?_, if_pos rfl, fun q e hq => ?_⟩
  · by_cases hqp : q = p
    · rw [if_pos hqp] at hq; cases hq; rw [hqp]; exact hd
    · rw [if_neg hqp] at hq; exact h.kd q e hq
  · by_cases hqp : q = p
    · rw [if_pos hqp] at hq; cases hq
    · rw [if_neg hqp] at hq ⊢; exact h.wk q e hq
  · by_cases hrp : r = p
    · rw [if_pos hrp] at hr; cases hr
    · rw [if_neg hrp] at hr
      by_cases hqp : q = p
      · rw [if_pos hqp] at hq; cases hq; exact hm r f hr
      · rw [if_neg hqp] at hq; exact h.ord q e r f hq hr
  · by_cases hqp : q = p
    · exact .inl ⟨hqp, fun z => z⟩
    · rw [if_neg hqp] at hq
      by_cases hrp : r = p
      · exact .inr (.inl ⟨d, if_pos hrp⟩)
      · rcases h.nb q e r l hq ha with ⟨f, hf⟩ | ⟨f, hf, hle⟩
        · exact .inr (.inl ⟨f, by rw [if_neg hrp]; exact hf⟩)
        · exact .inr (.inr ⟨f, by rw [if_neg hrp]; exact hf, hle⟩)
  · by_cases hsp : s = p
    · exact ⟨d, if_pos hsp⟩
    · rcases h.st with ⟨e, he⟩ | he
      · exact ⟨e, by rw [if_neg hsp]; exact he⟩
      · -- s waits with 0: then d is 0 too, and p is come to by a way of 0
        have h0 := hm s 0 he
        have := hd.1.nn g
        have hd0 : d = 0 := by omega
        subst hd0
        exfalso
        have : ∀ {x y d : Int}, Way ts x y d → d = 0 → x = y := by
          intro x y d w
          cases w with
          | nil => intro _; rfl
          | cons ha w' => intro e; have := g.adj ha; have := w'.nn g; omega
        exact hsp (this hd.1 rfl)
  · by_cases hqp : q = p
    · rw [if_pos hqp] at hq; cases hq; exact Int.le_refl _
    · rw [if_neg hqp] at hq; exact h.ord q e p d hq hp
/-- a neighbour that is known -/
theorem Dm.skip {ts : List T3} {s p d : Int} {kn wt : Int → Option Int} {seen : Int → Prop} (h : Dm ts s p d kn wt seen) {r : Int} (hr : ∃ f, kn r = some f) : Dm ts s p d kn wt (fun x => seen x ∨ x = r) :=
  ⟨h.kd, h.wk, h.ord, fun q e x l hq ha => by
    rcases h.nb q e x l hq ha with ⟨a, b⟩ | c
    · by_cases hx : x = r
      · subst hx; exact .inr (.inl hr)
      · exact .inl ⟨a, fun z => z.elim b hx⟩
    · exact .inr c, h.st, h.pd, h.mx⟩
/-- a neighbour that is not: it waits, with the lesser one -/
theorem Dm.wait {n : Int} {ts : List T3} (g : GW n ts) {s p d : Int} {kn wt : Int → Option Int} {seen : Int → Prop} (h : Dm ts s p d kn wt seen) {r l : Int} (ha : Adj ts p r l) (hr : kn r = none) {f : Int}
    (hf : (wt r = none ∧ f = d + l) ∨ ∃ e, wt r = some e ∧ f = min (d + l) e) : Dm ts s p d kn (fun x => if x = r then some f else wt x) (fun x => seen x ∨ x = r) := by
  have hl := g.adj ha
  have hway : Way ts s r (d + l) := (h.kd p d h.pd).1.snoc ha
  have hf1 : f ≤ d + l := by
    rcases hf with ⟨_, e⟩ | ⟨e, _, e'⟩
    · omega
    · omega
  have hf2 : Way ts s r f := by
    rcases hf with ⟨_, rfl⟩ | ⟨e, he, rfl⟩
    · exact hway
    · by_cases hle : d + l ≤ e
      · rw [Int.min_eq_left hle]; exact hway
      · rw [Int.min_eq_right (by omega)]; exact (h.wk r e he).2
  have hf3 : d ≤ f := by
    rcases hf with ⟨_, rfl⟩ | ⟨e, he, rfl⟩
    · omega
    · have := h.ord p d r e h.pd he; omega
  refine ⟨h.kd, fun q e hq => ?_, fun q e x y hq hx => ?_, fun q e x k hq hax => ?_, h.st, h.pd, h.mx⟩
  · by_cases hqr : q = r
    · rw [if_pos hqr] at hq; cases hq; rw [hqr]; exact ⟨hr, hf2⟩
    · rw [if_neg hqr] at hq; exact h.wk q e hq
  · by_cases hxr : x = r
    · rw [if_pos hxr] at hx; cases hx; have := h.mx q e hq; omega
    · rw [if_neg hxr] at hx; exact h.ord q e x y hq hx
  · by_cases hxr : x = r
    · subst hxr
      refine .inr (.inr ⟨f, if_pos rfl, ?_⟩)
      rcases h.nb q e x k hq hax with ⟨a, _⟩ | ⟨y, hy⟩ | ⟨y, hy, hle⟩
      · subst a
        rw [h.pd] at hq; cases hq
        rw [g.uniq hax ha]; exact hf1
      · rw [hr] at hy; cases hy
      · rcases hf with ⟨e1, _⟩ | ⟨e1, he1, e2⟩
        · rw [e1] at hy; cases hy
        · rw [he1] at hy; cases hy; omega
    · rcases h.nb q e x k hq hax with ⟨a, b⟩ | c | ⟨y, hy, hle⟩
      · exact .inl ⟨a, fun z => z.elim b hxr⟩
      · exact .inr (.inl c)
      · exact .inr (.inr ⟨y, by rw [if_neg hxr]; exact hy, hle⟩)
/-- all neighbours were looked at -/
theorem Dm.leave {ts : List T3} {s p d : Int} {kn wt : Int → Option Int} {seen : Int → Prop} (h : Dm ts s p d kn wt seen) (hs : ∀ r l, Adj ts p r l → seen r) : Dj ts s kn wt :=
  ⟨h.kd, h.wk, h.ord, fun q e r l hq ha => by
    rcases h.nb q e r l hq ha with ⟨a, b⟩ | c
    · subst a; exact absurd (hs r l ha) b
    · exact c, .inl h.st⟩

/-! ### by rounds (what the law's far does) -/
inductive WayK (ts : List T3) (k : Int) : Int → Int → Int → Prop where
  | nil (x : Int) : WayK ts k x x 0
  | tie {x y l : Int} : Adj ts x y l → WayK ts k x y l
  | cons {x z y l d : Int} : Adj ts x z l → z < k → WayK ts k z y d → WayK ts k x y (l + d)
theorem WayK.way {ts : List T3} {k x y d : Int} (h : WayK ts k x y d) : Way ts x y d := by
  induction h with
  | nil => exact .nil _
  | tie ha => exact .one ha
  | cons ha _ _ ih => exact .cons ha ih
theorem Way.toK {n : Int} {ts : List T3} (g : GW n ts) {x y d : Int} (h : Way ts x y d) : WayK ts n x y d := by
  induction h with
  | nil => exact .nil _
  | cons ha _ ih => exact .cons ha (g.adj ha).2.2.2.1 ih
theorem WayK.split {n : Int} {ts : List T3} (g : GW n ts) {k x y d : Int} (h : WayK ts (k + 1) x y d) : WayK ts k x y d ∨ ∃ d1 d2, WayK ts k x k d1 ∧ WayK ts k k y d2 ∧ d1 + d2 ≤ d := by
  induction h with
  | nil => exact .inl (.nil _)
  | tie ha => exact .inl (.tie ha)
  | cons ha hz w ih =>
    rename_i x z y l d
    by_cases hk : z < k
    · rcases ih with q | ⟨d1, d2, a, b, c⟩
      · exact .inl (.cons ha hk q)
      · exact .inr ⟨l + d1, d2, .cons ha hk a, b, by omega⟩
    · have e : z = k := by omega
      subst e
      rcases ih with q | ⟨d1, d2, a, b, c⟩
      · exact .inr ⟨l, d, .tie ha, q, Int.le_refl _⟩
      · have := a.way.nn g
        exact .inr ⟨l, d2, .tie ha, b, by omega⟩
/-- no way has places below 0 within -/
theorem WayK.zero {n : Int} {ts : List T3} (g : GW n ts) {x y d : Int} (h : WayK ts 0 x y d) : (x = y ∧ d = 0) ∨ Adj ts x y d := by
  cases h with
  | nil => exact .inl ⟨rfl, rfl⟩
  | tie ha => exact .inr ha
  | cons ha hz _ => have := g.adj ha; omega
/-- the table: each number is that of a way; no way by places below k (or, for rows that were done, k + 1) is shorter -/
structure Fw (ts : List T3) (n : Int) (F : Int → Int → Option Int) : Prop where
  snd : ∀ x y d, 0 ≤ x → x < n → 0 ≤ y → y < n → F x y = some d → Way ts x y d
def Cov (ts : List T3) (n k : Int) (F : Int → Int → Option Int) : Prop := ∀ x y d, 0 ≤ x → x < n → 0 ≤ y → y < n → WayK ts k x y d → ∃ e, F x y = some e ∧ e ≤ d
theorem Fw.len {n : Int} {ts : List T3} (g : GW n ts) {F : Int → Int → Option Int} (h : Fw ts n F) (c : Cov ts n n F) {x y : Int} (hx : 0 ≤ x) (hx' : x < n) (hy : 0 ≤ y) (hy' : y < n) : Len ts x y (F x y) := by
  cases e : F x y with
  | some d =>
    refine ⟨h.snd x y d hx hx' hy hy' e, fun e' he => ?_⟩
    obtain ⟨f, hf, hle⟩ := c x y e' hx hx' hy hy' (he.toK g)
    rw [e] at hf; cases hf; exact hle
  | none =>
    intro d hd
    obtain ⟨f, hf, _⟩ := c x y d hx hx' hy hy' (hd.toK g)
    rw [e] at hf; cases hf
end WM
/-! ### lengths_from over lists -/
namespace WM
def fnl (kn : List (Option Int)) (p : Int) : Option Int := if 0 ≤ p then kn.getD p.toNat none else none
def cnt (kn : List (Option Int)) : Nat := (kn.filter Option.isSome).length
theorem cnt_le (kn : List (Option Int)) : cnt kn ≤ kn.length := List.length_filter_le _ _
theorem fnl_set {kn : List (Option Int)} {p : Int} {o : Option Int} (h0 : 0 ≤ p) (h1 : p.toNat < kn.length) (q : Int) : fnl (kn.set p.toNat o) q = if q = p then o else fnl kn q := by
  unfold fnl
  by_cases hq : 0 ≤ q
  · rw [if_pos hq, if_pos hq, List.getD_eq_getElem?_getD, List.getD_eq_getElem?_getD, List.getElem?_set]
    by_cases e : q = p
    · subst e; simp [h1]
    · have : ¬ p.toNat = q.toNat := by omega
      rw [if_neg this, if_neg e]
  · rw [if_neg hq, if_neg (by omega), if_neg hq]
theorem cnt_set : ∀ {kn : List (Option Int)} {j : Nat} {d : Int}, kn[j]? = some none → cnt (kn.set j (some d)) = cnt kn + 1
  | [], _, _, h => by simp at h
  | o :: r, 0, d, h => by
    have : o = none := by simpa using h
    subst this
    simp [cnt, List.set]
  | o :: r, j + 1, d, h => by
    have ih := cnt_set (kn := r) (j := j) (d := d) (by simpa using h)
    unfold cnt at ih ⊢
    rw [List.set_cons_succ]
    cases o with
    | none => rw [List.filter_cons_of_neg (by simp), List.filter_cons_of_neg (by simp)]; exact ih
    | some x => rw [List.filter_cons_of_pos (by simp), List.filter_cons_of_pos (by simp), List.length_cons, List.length_cons, ih]
theorem cnt_rep (n : Nat) : cnt (List.replicate n none) = 0 := by
  unfold cnt
  rw [List.filter_replicate]
  simp
theorem fnl_rep (n : Nat) (q : Int) : fnl (List.replicate n none) q = none := by
  unfold fnl
  split
  · rw [List.getD_eq_getElem?_getD, List.getElem?_replicate]
    split <;> rfl
  · rfl
structure Dl (ts : List T3) (n s : Int) (kn : List (Option Int)) (wt : Int → Option Int) : Prop where
  dj : Dj ts s (fnl kn) wt
  ln : kn.length = n.toNat
  bk : ∀ p d, fnl kn p = some d → d ≤ 99 * cnt kn
  bw : ∀ p e, wt p = some e → e ≤ 99 * cnt kn ∧ 0 ≤ p ∧ p < n
structure Dn (ts : List T3) (n s p d : Int) (kn : List (Option Int)) (wt : Int → Option Int) (seen : Int → Prop) : Prop where
  dm : Dm ts s p d (fnl kn) wt seen
  ln : kn.length = n.toNat
  bk : ∀ q e, fnl kn q = some e → e ≤ 99 * cnt kn
  bd : d + 99 ≤ 99 * cnt kn
  bw : ∀ q e, wt q = some e → e ≤ 99 * cnt kn ∧ 0 ≤ q ∧ q < n
theorem Dl.start {n : Int} {ts : List T3} (g : GW n ts) {s : Int} (h0 : 0 ≤ s) (h1 : s < n) : Dl ts n s (List.replicate n.toNat none) (fun q => if q = s then some 0 else none) := by
  refine ⟨⟨fun p d h => ?_, fun p d h => ?_, fun p d q e h => ?_, fun p d q l h => ?_, .inr (if_pos rfl)⟩, List.length_replicate, fun p d h => ?_, fun p e h => ?_⟩
  · rw [fnl_rep] at h; cases h
  · by_cases e : p = s
    · rw [if_pos e] at h; cases h; rw [e]; exact ⟨fnl_rep _ _, .nil s⟩
    · rw [if_neg e] at h; cases h
  · rw [fnl_rep] at h; cases h
  · rw [fnl_rep] at h; cases h
  · rw [fnl_rep] at h; cases h
  · by_cases e : p = s
    · rw [if_pos e] at h; cases h; rw [e, cnt_rep]; exact ⟨by simp, h0, h1⟩
    · rw [if_neg e] at h; cases h
theorem Dl.enter {n : Int} {ts : List T3} (g : GW n ts) {s : Int} {kn : List (Option Int)} {wt : Int → Option Int} (h : Dl ts n s kn wt) {p d : Int} (hp : wt p = some d) (hm : ∀ q e, wt q = some e → d ≤ e) :
    kn[p.toNat]? = some none ∧ 0 ≤ p ∧ p < n ∧ cnt (kn.set p.toNat (some d)) = cnt kn + 1 ∧ Dn ts n s p d (kn.set p.toNat (some d)) (fun q => if q = p then none else wt q) (fun _ => False) := by
  obtain ⟨hb, h0, h1⟩ := h.bw p d hp
  have hl := h.ln
  have hlt : p.toNat < kn.length := by omega
  have hk := (h.dj.wk p d hp).1
  have hn : kn[p.toNat]? = some none := by
    unfold fnl at hk
    rw [if_pos h0, List.getD_eq_getElem?_getD, List.getElem?_eq_getElem hlt] at hk
    rw [List.getElem?_eq_getElem hlt]
    exact congrArg some hk
  have hc := cnt_set (d := d) hn
  have ef : fnl (kn.set p.toNat (some d)) = fun q => if q = p then some d else fnl kn q := funext fun q => fnl_set h0 hlt q
  refine ⟨hn, h0, h1, hc, ⟨?_, by rw [List.length_set]; exact hl, fun q e hq => ?_, by rw [hc]; omega, fun q e hq => ?_⟩⟩
  · rw [ef]; exact h.dj.enter g hp hm
  · rw [ef] at hq
    simp only at hq
    rw [hc]
    by_cases e' : q = p
    · rw [if_pos e'] at hq; cases hq; omega
    · rw [if_neg e'] at hq; have := h.bk q e hq; omega
  · by_cases e' : q = p
    · rw [if_pos e'] at hq; cases hq
    · rw [if_neg e'] at hq; have := h.bw q e hq; rw [hc]; exact ⟨by omega, this.2⟩
theorem Dn.skip {n : Int} {ts : List T3} {s p d : Int} {kn : List (Option Int)} {wt : Int → Option Int} {seen : Int → Prop} (h : Dn ts n s p d kn wt seen) {r f : Int} (hr : fnl kn r = some f) : Dn ts n s p d kn wt (fun x => seen x ∨ x = r) :=
  ⟨h.dm.skip ⟨f, hr⟩, h.ln, h.bk, h.bd, h.bw⟩
theorem Dn.wait {n : Int} {ts : List T3} (g : GW n ts) {s p d : Int} {kn : List (Option Int)} {wt : Int → Option Int} {seen : Int → Prop} (h : Dn ts n s p d kn wt seen) {r l : Int} (ha : Adj ts p r l) (hr : fnl kn r = none) :
    Dn ts n s p d kn (fun x => if x = r then some (if (wt r).getD (d + l) < d + l then (wt r).getD (d + l) else d + l) else wt x) (fun x => seen x ∨ x = r) := by
  have hl := g.adj ha
  have hf : (wt r = none ∧ (if (wt r).getD (d + l) < d + l then (wt r).getD (d + l) else d + l) = d + l) ∨ ∃ e, wt r = some e ∧ (if (wt r).getD (d + l) < d + l then (wt r).getD (d + l) else d + l) = min (d + l) e := by
    cases e : wt r with
    | none => exact .inl ⟨rfl, by simp⟩
    | some x =>
      refine .inr ⟨x, rfl, ?_⟩
      simp only [Option.getD_some]
      split <;> omega
  refine ⟨h.dm.wait g ha hr hf, h.ln, h.bk, h.bd, fun q e hq => ?_⟩
  by_cases e' : q = r
  · rw [if_pos e'] at hq
    have hd := h.bd
    have e2 := Option.some.inj hq
    refine ⟨?_, by omega, by omega⟩
    split at e2 <;> omega
  · rw [if_neg e'] at hq; exact h.bw q e hq
theorem Dn.leave {n : Int} {ts : List T3} {s p d : Int} {kn : List (Option Int)} {wt : Int → Option Int} {seen : Int → Prop} (h : Dn ts n s p d kn wt seen) (hs : ∀ r l, Adj ts p r l → seen r) : Dl ts n s kn wt :=
  ⟨h.dm.leave hs, h.ln, h.bk, h.bw⟩
/-- a list of lengths from s -/
structure Lens (ts : List T3) (n s : Int) (kn : List (Option Int)) : Prop where
  ln : kn.length = n.toNat
  len : ∀ y, 0 ≤ y → y < n → Len ts s y (fnl kn y)
  bd : ∀ o ∈ kn, ∀ d, o = some d → 0 ≤ d ∧ d ≤ 2376
theorem Dl.done {n : Int} {ts : List T3} (g : GW n ts) {s : Int} {kn : List (Option Int)} {wt : Int → Option Int} (h : Dl ts n s kn wt) (hw : ∀ q, wt q = none) : Lens ts n s kn := by
  refine ⟨h.ln, fun y _ _ => h.dj.done g hw y, fun o ho d e => ?_⟩
  obtain ⟨j, hj, ej⟩ := List.getElem_of_mem ho
  have hf : fnl kn (j : Int) = some d := by
    unfold fnl
    rw [if_pos (by omega), List.getD_eq_getElem?_getD, Int.toNat_natCast, List.getElem?_eq_getElem hj, ej, e]; rfl
  have h1 := h.bk _ _ hf
  have h2 := (h.dj.kd _ _ hf).1.nn g
  have h3 := cnt_le kn
  have := h.ln
  have := g.n24
  omega
theorem Lens.uniq {ts : List T3} {n s : Int} {kn kn' : List (Option Int)} (h : Lens ts n s kn) (h' : Lens ts n s kn') : kn = kn' := by
  refine List.ext_getElem (by rw [h.ln, h'.ln]) fun j h1 h2 => ?_
  have hl := h.ln
  have e1 := h.len j (by omega) (by omega)
  have e2 := h'.len j (by omega) (by omega)
  have e := Len.uniq e1 e2
  unfold fnl at e
  rw [if_pos (by omega), if_pos (by omega), List.getD_eq_getElem?_getD, List.getD_eq_getElem?_getD, Int.toNat_natCast, List.getElem?_eq_getElem h1, List.getElem?_eq_getElem h2] at e
  exact e
end WM
/-! ### by rounds, in place -/
namespace WM
def oadd : Option Int → Option Int → Option Int
  | some a, some b => some (a + b)
  | _, _ => none
def oles : Option Int → Option Int → Option Int
  | none, o => o
  | some a, none => some a
  | some a, some b => some (if b < a then b else a)
theorem WayK.mono {ts : List T3} {k k' x y d : Int} (h : WayK ts k x y d) (hk : k ≤ k') : WayK ts k' x y d := by
  induction h with
  | nil => exact .nil _
  | tie ha => exact .tie ha
  | cons ha hz _ ih => exact .cons ha (by omega) ih
structure Fm (ts : List T3) (n k : Int) (F : Int → Int → Option Int) (done : Int → Int → Prop) : Prop where
  fw : Fw ts n F
  cv : Cov ts n k F
  dn : ∀ x y d, 0 ≤ x → x < n → 0 ≤ y → y < n → done x y → WayK ts (k + 1) x y d → ∃ e, F x y = some e ∧ e ≤ d
theorem oles_le {o p : Option Int} {d : Int} (h : (∃ e, o = some e ∧ e ≤ d) ∨ ∃ e, p = some e ∧ e ≤ d) : ∃ e, oles o p = some e ∧ e ≤ d := by
  rcases h with ⟨e, rfl, h⟩ | ⟨e, rfl, h⟩
  · cases p with
    | none => exact ⟨e, rfl, h⟩
    | some b => exact ⟨_, rfl, by split <;> omega⟩
  · cases o with
    | none => exact ⟨e, rfl, h⟩
    | some a => exact ⟨_, rfl, by split <;> omega⟩
theorem oles_or {o p : Option Int} {d : Int} (h : oles o p = some d) : o = some d ∨ p = some d := by
  cases o with
  | none => exact .inr h
  | some a =>
    cases p with
    | none => exact .inl h
    | some b =>
      have e : (if b < a then b else a) = d := Option.some.inj h
      split at e
      · exact .inr (by rw [e])
      · exact .inl (by rw [e])
theorem oadd_some {o p : Option Int} {d : Int} (h : oadd o p = some d) : ∃ a b, o = some a ∧ p = some b ∧ a + b = d := by
  cases o with
  | none => cases h
  | some a =>
    cases p with
    | none => cases h
    | some b => exact ⟨a, b, rfl, rfl, Option.some.inj h⟩
theorem Fm.step {n : Int} {ts : List T3} (g : GW n ts) {k : Int} {F : Int → Int → Option Int} {done : Int → Int → Prop} (h : Fm ts n k F done) {a b : Int} (ha : 0 ≤ a) (ha' : a < n) (hb : 0 ≤ b) (hb' : b < n) (hk : 0 ≤ k) (hk' : k < n) :
    Fm ts n k (fun x y => if x = a ∧ y = b then oles (F a b) (oadd (F a k) (F k b)) else F x y) (fun x y => done x y ∨ (x = a ∧ y = b)) := by
  have snd : ∀ d, oles (F a b) (oadd (F a k) (F k b)) = some d → Way ts a b d := fun d hd => by
    rcases oles_or hd with e | e
    · exact h.fw.snd a b d ha ha' hb hb' e
    · obtain ⟨d1, d2, e1, e2, rfl⟩ := oadd_some e
      exact (h.fw.snd a k d1 ha ha' hk hk' e1).trans (h.fw.snd k b d2 hk hk' hb hb' e2)
  have cov1 : ∀ d, WayK ts (k + 1) a b d → ∃ e, oles (F a b) (oadd (F a k) (F k b)) = some e ∧ e ≤ d := fun d w => by
    refine oles_le ?_
    rcases w.split g with q | ⟨d1, d2, q1, q2, hle⟩
    · exact .inl (h.cv a b d ha ha' hb hb' q)
    · obtain ⟨e1, f1, l1⟩ := h.cv a k d1 ha ha' hk hk' q1
      obtain ⟨e2, f2, l2⟩ := h.cv k b d2 hk hk' hb hb' q2
      exact .inr ⟨e1 + e2, by rw [f1, f2]; rfl, by omega⟩
  refine ⟨⟨fun x y d hx hx' hy hy' e => ?_⟩, fun x y d hx hx' hy hy' w => ?_, fun x y d hx hx' hy hy' hd w => ?_⟩
  · by_cases c : x = a ∧ y = b
    · rw [if_pos c] at e; rw [c.1, c.2]; exact snd d e
    · rw [if_neg c] at e; exact h.fw.snd x y d hx hx' hy hy' e
  · by_cases c : x = a ∧ y = b
    · rw [if_pos c]; rw [c.1, c.2] at w; exact cov1 d (w.mono (by omega))
    · rw [if_neg c]; exact h.cv x y d hx hx' hy hy' w
  · by_cases c : x = a ∧ y = b
    · rw [if_pos c]; rw [c.1, c.2] at w; exact cov1 d w
    · rw [if_neg c]; exact h.dn x y d hx hx' hy hy' (hd.resolve_right c) w
theorem Fm.enter {n : Int} {ts : List T3} {k : Int} {F : Int → Int → Option Int} (h : Fw ts n F) (c : Cov ts n k F) : Fm ts n k F (fun _ _ => False) := ⟨h, c, fun _ _ _ _ _ _ _ z => z.elim⟩
theorem Fm.leave {n : Int} {ts : List T3} {k : Int} {F : Int → Int → Option Int} {done : Int → Int → Prop} (h : Fm ts n k F done) (hd : ∀ x y, 0 ≤ x → x < n → 0 ≤ y → y < n → done x y) : Fw ts n F ∧ Cov ts n (k + 1) F :=
  ⟨h.fw, fun x y d hx hx' hy hy' w => h.dn x y d hx hx' hy hy' (hd x y hx hx' hy hy') w⟩
/-- the ties, before the rounds -/
def Ft (ts : List T3) (n : Int) (F : Int → Int → Option Int) : Prop := ∀ x y d, 0 ≤ x → x < n → 0 ≤ y → y < n → (F x y = some d ↔ (x = y ∧ d = 0) ∨ Adj ts x y d)
theorem Ft.fw {n : Int} {ts : List T3} (g : GW n ts) {F : Int → Int → Option Int} (h : Ft ts n F) : Fw ts n F ∧ Cov ts n 0 F := by
  refine ⟨⟨fun x y d hx hx' hy hy' e => ?_⟩, fun x y d hx hx' hy hy' w => ?_⟩
  · rcases (h x y d hx hx' hy hy').mp e with ⟨rfl, rfl⟩ | ha
    · exact .nil x
    · exact .one ha
  · refine ⟨d, (h x y d hx hx' hy hy').mpr ?_, Int.le_refl _⟩
    rcases w.zero g with q | q
    · exact .inl q
    · exact .inr q
theorem Ft.nil (n : Int) {F : Int → Int → Option Int} (h : ∀ x y, 0 ≤ x → x < n → 0 ≤ y → y < n → F x y = if x = y then some 0 else none) : Ft [] n F := fun x y d hx hx' hy hy' => by
  rw [h x y hx hx' hy hy']
  constructor
  · intro e
    split at e
    · rename_i c; exact .inl ⟨c, (Option.some.inj e).symm⟩
    · cases e
  · rintro (⟨rfl, rfl⟩ | ha)
    · rw [if_pos rfl]
    · rcases ha with z | z <;> simp at z
/-- one tie more -/
theorem Ft.put {n : Int} {pre post : List T3} {a b l : Int} (g : GW n (pre ++ (a, b, l) :: post)) {F : Int → Int → Option Int} (h : Ft pre n F) :
    Ft (pre ++ [(a, b, l)]) n (fun x y => if x = b ∧ y = a then some l else if x = a ∧ y = b then some l else F x y) := fun x y d hx hx' hy hy' => by
  have hr := g.rng (a, b, l) (by simp)
  simp only at hr
  have sub : ∀ {x y d : Int}, Adj pre x y d → Adj (pre ++ (a, b, l) :: post) x y d := fun z => z.elim (fun z => .inl (List.mem_append_left _ z)) fun z => .inr (List.mem_append_left _ z)
  have own : Adj (pre ++ (a, b, l) :: post) a b l := .inl (by simp)
  have hadj : Adj (pre ++ [(a, b, l)]) x y d ↔ Adj pre x y d ∨ (x = a ∧ y = b ∧ d = l) ∨ (x = b ∧ y = a ∧ d = l) := by
    unfold Adj
    simp only [List.mem_append, List.mem_singleton, Prod.mk.injEq]
    constructor
    · rintro ((z | z) | (z | z))
      · exact .inl (.inl z)
      · exact .inr (.inl z)
      · exact .inl (.inr z)
      · exact .inr (.inr ⟨z.2.1, z.1, z.2.2⟩)
    · rintro ((z | z) | z | z)
      · exact .inl (.inl z)
      · exact .inr (.inl z)
      · exact .inl (.inr z)
      · exact .inr (.inr ⟨z.2.1, z.1, z.2.2⟩)
  rw [hadj]
  show (if x = b ∧ y = a then some l else if x = a ∧ y = b then some l else F x y) = some d ↔ _
  by_cases c1 : x = b ∧ y = a
  · rw [if_pos c1]
    constructor
    · intro e; exact .inr (.inr (.inr ⟨c1.1, c1.2, (Option.some.inj e).symm⟩))
    · rintro (⟨e, _⟩ | z | ⟨e1, e2, e3⟩ | ⟨_, _, e3⟩)
      · omega
      · have z' := sub z; rw [c1.1, c1.2] at z'; rw [g.uniq z' own.symm]
      · rw [e3]
      · rw [e3]
  · rw [if_neg c1]
    by_cases c2 : x = a ∧ y = b
    · rw [if_pos c2]
      constructor
      · intro e; exact .inr (.inr (.inl ⟨c2.1, c2.2, (Option.some.inj e).symm⟩))
      · rintro (⟨e, _⟩ | z | ⟨e1, e2, e3⟩ | ⟨_, _, e3⟩)
        · omega
        · have z' := sub z; rw [c2.1, c2.2] at z'; rw [g.uniq z' own]
        · rw [e3]
        · rw [e3]
    · rw [if_neg c2, h x y d hx hx' hy hy']
      constructor
      · rintro (z | z)
        · exact .inl z
        · exact .inr (.inl z)
      · rintro (z | z | z | z)
        · exact .inl z
        · exact .inr z
        · exact absurd ⟨z.1, z.2.1⟩ c2
        · exact absurd ⟨z.1, z.2.1⟩ c1

/-! ### tables as lists of rows -/
def mat (M : List (List (Option Int))) (x y : Int) : Option Int := if 0 ≤ x then fnl (M.getD x.toNat []) y else none
def setm (M : List (List (Option Int))) (a b : Int) (v : Option Int) : List (List (Option Int)) := M.set a.toNat ((M.getD a.toNat []).set b.toNat v)
structure Sqm (n : Int) (M : List (List (Option Int))) : Prop where
  ln : M.length = n.toNat
  rw_ : ∀ r ∈ M, r.length = n.toNat
theorem Sqm.row {n : Int} {M : List (List (Option Int))} (h : Sqm n M) {a : Int} (ha : 0 ≤ a) (ha' : a < n) : ∃ r, M[a.toNat]? = some r ∧ M.getD a.toNat [] = r ∧ r.length = n.toNat := by
  have hl := h.ln
  have hlt : a.toNat < M.length := by omega
  exact ⟨M[a.toNat], List.getElem?_eq_getElem hlt, by rw [List.getD_eq_getElem?_getD, List.getElem?_eq_getElem hlt]; rfl, h.rw_ _ (List.getElem_mem hlt)⟩
theorem Sqm.set {n : Int} {M : List (List (Option Int))} (h : Sqm n M) {a b : Int} {v : Option Int} (ha : 0 ≤ a) (ha' : a < n) : Sqm n (setm M a b v) := by
  obtain ⟨r, h1, h2, h3⟩ := h.row ha ha'
  refine ⟨by unfold setm; rw [List.length_set]; exact h.ln, fun q hq => ?_⟩
  unfold setm at hq
  rcases List.mem_or_eq_of_mem_set hq with z | z
  · exact h.rw_ q z
  · rw [z, List.length_set, h2, h3]
theorem mat_set {n : Int} {M : List (List (Option Int))} (h : Sqm n M) {a b : Int} {v : Option Int} (ha : 0 ≤ a) (ha' : a < n) (hb : 0 ≤ b) (hb' : b < n) {x y : Int} (hx : 0 ≤ x) (hx' : x < n) :
    mat (setm M a b v) x y = if x = a ∧ y = b then v else mat M x y := by
  obtain ⟨r, h1, h2, h3⟩ := h.row ha ha'
  have hl := h.ln
  unfold mat setm
  rw [if_pos hx, if_pos hx, List.getD_eq_getElem?_getD, List.getElem?_set]
  by_cases e : x = a
  · subst e
    rw [if_pos rfl, if_pos (by omega), Option.getD_some, h2, fnl_set hb (by omega)]
    by_cases e2 : y = b
    · rw [if_pos e2, if_pos ⟨rfl, e2⟩]
    · rw [if_neg e2, if_neg fun z => e2 z.2]
  · rw [if_neg (by omega), if_neg fun z => e z.1, ← List.getD_eq_getElem?_getD]
theorem Fm.congr {n : Int} {ts : List T3} {k : Int} {F G : Int → Int → Option Int} {done done' : Int → Int → Prop} (h : Fm ts n k F done) (e : ∀ x y, 0 ≤ x → x < n → 0 ≤ y → y < n → G x y = F x y) (hd : ∀ x y, 0 ≤ x → x < n → 0 ≤ y → y < n → done' x y → done x y) : Fm ts n k G done' :=
  ⟨⟨fun x y d a b c d' z => h.fw.snd x y d a b c d' (by rw [← e x y a b c d']; exact z)⟩, fun x y d a b c d' w => by rw [e x y a b c d']; exact h.cv x y d a b c d' w, fun x y d a b c d' z w => by rw [e x y a b c d']; exact h.dn x y d a b c d' (hd x y a b c d' z) w⟩
theorem Ft.congr {n : Int} {ts : List T3} {F G : Int → Int → Option Int} (h : Ft ts n F) (e : ∀ x y, 0 ≤ x → x < n → 0 ≤ y → y < n → G x y = F x y) : Ft ts n G := fun x y d a b c d' => by rw [e x y a b c d']; exact h x y d a b c d'
/-- the whole table told: each row its lengths -/
def Rows (ts : List T3) (n : Int) (M : List (List (Option Int))) : Prop := M.length = n.toNat ∧ ∀ x, 0 ≤ x → x < n → Lens ts n x (M.getD x.toNat [])
theorem way_bound {n : Int} {ts : List T3} (g : GW n ts) (x y : Int) (hx : 0 ≤ x) (hx' : x < n) (d : Int) (h : IsD ts x y d) : 0 ≤ d ∧ d ≤ 2376 := by
  -- lengths by the nearest first end in a list whose numbers are bounded
  have ex : ∀ (m : Nat) (kn : List (Option Int)) (wt : Int → Option Int), Dl ts n x kn wt → n.toNat - cnt kn ≤ m → (∃ L : List Int, ∀ q e, wt q = some e → q ∈ L) → ∃ kn', Lens ts n x kn' := by
    intro m
    induction m with
    | zero =>
      intro kn wt D hm _
      refine ⟨kn, D.done g fun q => ?_⟩
      cases e : wt q with
      | none => rfl
      | some d =>
        have hk := (D.dj.wk q d e).1
        obtain ⟨_, h0, h1⟩ := D.bw q d e
        have hl := D.ln
        have hlt : q.toNat < kn.length := by omega
        have hn : kn[q.toNat]? = some none := by
          unfold fnl at hk
          rw [if_pos h0, List.getD_eq_getElem?_getD, List.getElem?_eq_getElem hlt] at hk
          rw [List.getElem?_eq_getElem hlt]
          exact congrArg some hk
        have h1 := cnt_set (d := 0) hn
        have h2 := cnt_le (kn.set q.toNat (some 0))
        rw [List.length_set] at h2
        omega
    | succ m ih =>
      intro kn wt D hm hL
      by_cases hw : ∀ q, wt q = none
      · exact ⟨kn, D.done g hw⟩
      · -- pick the nearest
        obtain ⟨L, hL⟩ := hL
        have pick : ∀ L : List Int, (∃ q ∈ L, (wt q).isSome) → ∃ p d, wt p = some d ∧ ∀ q ∈ L, ∀ e, wt q = some e → d ≤ e := by
          intro L
          induction L with
          | nil => rintro ⟨q, hq, _⟩; simp at hq
          | cons z L ihL =>
            rintro ⟨q, hq, hs⟩
            by_cases hr : ∃ q ∈ L, (wt q).isSome
            · obtain ⟨p, d, hp, hmin⟩ := ihL hr
              cases ez : wt z with
              | none =>
                refine ⟨p, d, hp, fun q' hq' e he => ?_⟩
                rcases List.mem_cons.mp hq' with rfl | hq'
                · rw [ez] at he; cases he
                · exact hmin q' hq' e he
              | some dz =>
                by_cases hz : dz < d
                · refine ⟨z, dz, ez, fun q' hq' e he => ?_⟩
                  rcases List.mem_cons.mp hq' with rfl | hq'
                  · rw [ez] at he; cases he; exact Int.le_refl _
                  · have := hmin q' hq' e he; omega
                · refine ⟨p, d, hp, fun q' hq' e he => ?_⟩
                  rcases List.mem_cons.mp hq' with rfl | hq'
                  · rw [ez] at he; cases he; omega
                  · exact hmin q' hq' e he
            · rcases List.mem_cons.mp hq with rfl | hq
              · obtain ⟨d, hd⟩ := Option.isSome_iff_exists.mp hs
                refine ⟨q, d, hd, fun q' hq' e he => ?_⟩
                rcases List.mem_cons.mp hq' with rfl | hq'
                · rw [hd] at he; cases he; exact Int.le_refl _
                · exact absurd ⟨q', hq', by rw [he]; rfl⟩ hr
              · exact absurd ⟨q, hq, hs⟩ hr
        obtain ⟨p, d, hp, hmin⟩ := pick L (by
          apply Classical.byContradiction
          intro hno
          refine hw fun q => ?_
          cases e : wt q with
          | none => rfl
          | some d => exact absurd ⟨q, hL q d e, by rw [e]; rfl⟩ hno)
        obtain ⟨hn, h0, h1, hc, N⟩ := D.enter g hp (fun q e he => hmin q (hL q e he) e he)
        -- all neighbours, tie by tie
        have all : ∀ (ns : List (Int × Int)) (wt' : Int → Option Int) (seen : Int → Prop), Dn ts n x p d (kn.set p.toNat (some d)) wt' seen → (∃ L : List Int, ∀ q e, wt' q = some e → q ∈ L) → (∀ r l, (r, l) ∈ ns → Adj ts p r l) →
            ∃ (wt'' : Int → Option Int) (seen' : Int → Prop), Dn ts n x p d (kn.set p.toNat (some d)) wt'' seen' ∧ (∃ L : List Int, ∀ q e, wt'' q = some e → q ∈ L) ∧ (∀ r, seen r → seen' r) ∧ ∀ r l, (r, l) ∈ ns → seen' r := by
          intro ns
          induction ns with
          | nil => intro wt' seen N hL _; exact ⟨wt', seen, N, hL, fun _ z => z, fun r l z => by simp at z⟩
          | cons t ns ih' =>
            intro wt' seen N hL' ha
            obtain ⟨r, l⟩ := t
            have har := ha r l List.mem_cons_self
            have ha' : ∀ r l, (r, l) ∈ ns → Adj ts p r l := fun r l z => ha r l (List.mem_cons_of_mem _ z)
            cases ek : fnl (kn.set p.toNat (some d)) r with
            | some f =>
              obtain ⟨w2, s2, N2, L2, m2, a2⟩ := ih' wt' _ (N.skip ek) hL' ha'
              refine ⟨w2, s2, N2, L2, fun q z => m2 q (.inl z), fun q l' z => ?_⟩
              rcases List.mem_cons.mp z with e | z
              · cases e; exact m2 _ (.inr rfl)
              · exact a2 q l' z
            | none =>
              obtain ⟨L', hL'⟩ := hL'
              obtain ⟨w2, s2, N2, L2, m2, a2⟩ := ih' _ _ (N.wait g har ek) ⟨r :: L', fun q e he => by
                by_cases e' : q = r
                · rw [e']; exact List.mem_cons_self
                · rw [if_neg e'] at he; exact List.mem_cons_of_mem _ (hL' q e he)⟩ ha'
              refine ⟨w2, s2, N2, L2, fun q z => m2 q (.inl z), fun q l' z => ?_⟩
              rcases List.mem_cons.mp z with e | z
              · cases e; exact m2 _ (.inr rfl)
              · exact a2 q l' z
        have nbr : ∃ ns : List (Int × Int), (∀ r l, (r, l) ∈ ns → Adj ts p r l) ∧ ∀ r l, Adj ts p r l → (r, l) ∈ ns := by
          refine ⟨(ts.filterMap fun t => if t.1 = p then some (t.2.1, t.2.2) else none) ++ (ts.filterMap fun t => if t.2.1 = p then some (t.1, t.2.2) else none), fun r l z => ?_, fun r l z => ?_⟩
          · rcases List.mem_append.mp z with z | z
            · obtain ⟨⟨a, b, c⟩, ht, e⟩ := List.mem_filterMap.mp z
              split at e
              · rename_i c1
                have c1' : a = p := c1
                have e' := Option.some.inj e
                simp only [Prod.mk.injEq] at e'
                obtain ⟨rfl, rfl⟩ := e'
                subst c1'
                exact .inl ht
              · cases e
            · obtain ⟨⟨a, b, c⟩, ht, e⟩ := List.mem_filterMap.mp z
              split at e
              · rename_i c1
                have c1' : b = p := c1
                have e' := Option.some.inj e
                simp only [Prod.mk.injEq] at e'
                obtain ⟨rfl, rfl⟩ := e'
                subst c1'
                exact .inr ht
              · cases e
          · rcases z with z | z
            · exact List.mem_append_left _ (List.mem_filterMap.mpr ⟨_, z, by simp⟩)
            · exact List.mem_append_right _ (List.mem_filterMap.mpr ⟨_, z, by simp⟩)
        obtain ⟨ns, hns1, hns2⟩ := nbr
        obtain ⟨w2, s2, N2, L2, _, a2⟩ := all ns _ _ N ⟨L, fun q e he => by
          by_cases e' : q = p
          · rw [if_pos e'] at he; cases he
          · rw [if_neg e'] at he; exact hL q e he⟩ hns1
        exact ih _ _ (N2.leave fun r l ha => a2 r l (hns2 r l ha)) (by omega) L2
  obtain ⟨kn, K⟩ := ex n.toNat _ _ (Dl.start g hx hx') (by omega) ⟨[x], fun q e he => by
    by_cases e' : q = x
    · simp [e']
    · rw [if_neg e'] at he; cases he⟩
  have hy : (0 ≤ y ∧ y < n) ∨ y = x := by
    have : ∀ {x y d : Int}, Way ts x y d → x = y ∨ (0 ≤ y ∧ y < n) := by
      intro x y d w
      induction w with
      | nil => exact .inl rfl
      | cons ha _ ih =>
        rcases ih with rfl | q
        · have := g.adj ha; exact .inr ⟨this.2.2.1, this.2.2.2.1⟩
        · exact .inr q
    rcases this h.1 with e | q
    · exact .inr e.symm
    · exact .inl q
  have hy' : 0 ≤ y ∧ y < n := hy.elim id fun e => by omega
  have hl := K.len y hy'.1 hy'.2
  have hlen := K.ln
  have hlt : y.toNat < kn.length := by omega
  have e1 : fnl kn y = kn[y.toNat] := by
    unfold fnl
    rw [if_pos hy'.1, List.getD_eq_getElem?_getD, List.getElem?_eq_getElem hlt]; rfl
  have e2 := Len.uniq hl (show Len ts x y (some d) from h)
  exact K.bd _ (List.getElem_mem hlt) d (by rw [← e1]; exact e2)
/-- from the rounds' end -/
theorem rows_of {n : Int} {ts : List T3} (g : GW n ts) {M : List (List (Option Int))} (h : Sqm n M) (f : Fw ts n (mat M)) (c : Cov ts n n (mat M)) : Rows ts n M := by
  refine ⟨h.ln, fun x hx hx' => ?_⟩
  obtain ⟨r, h1, h2, h3⟩ := h.row hx hx'
  have e : ∀ y, mat M x y = fnl r y := fun y => by unfold mat; rw [if_pos hx, h2]
  rw [h2]
  refine ⟨h3, fun y hy hy' => by rw [← e]; exact f.len g c hx hx' hy hy', fun o ho d ed => ?_⟩
  obtain ⟨j, hj, ej⟩ := List.getElem_of_mem ho
  have hf : fnl r (j : Int) = some d := by
    unfold fnl
    rw [if_pos (by omega), List.getD_eq_getElem?_getD, Int.toNat_natCast, List.getElem?_eq_getElem hj, ej, ed]; rfl
  have hl := f.len g c hx hx' (y := (j : Int)) (by omega) (by omega)
  rw [e, hf] at hl
  exact way_bound g x j hx hx' d hl
end WM
/-! ### what is between, next places -/
namespace WM
/-- p is on a shortest way from x to y -/
def Btw (ts : List T3) (x y p : Int) : Prop := ∃ a b, IsD ts x p a ∧ IsD ts p y b ∧ IsD ts x y (a + b)
/-- p is second on a shortest way from x to y, by a tie of l -/
def Nxt (ts : List T3) (x y p : Int) : Prop := ∃ l b, Adj ts x p l ∧ IsD ts p y b ∧ IsD ts x y (l + b)
theorem Btw.symm {ts : List T3} {x y p : Int} (h : Btw ts x y p) : Btw ts y x p := by
  obtain ⟨a, b, h1, h2, h3⟩ := h
  exact ⟨b, a, h2.symm, h1.symm, by rw [Int.add_comm]; exact h3.symm⟩
theorem Way.zero {n : Int} {ts : List T3} (g : GW n ts) {x y : Int} (h : Way ts x y 0) : x = y := by
  have : ∀ {x y d : Int}, Way ts x y d → d = 0 → x = y := by
    intro x y d w
    cases w with
    | nil => intro _; rfl
    | cons ha w' => intro e; have := g.adj ha; have := w'.nn g; omega
  exact this h rfl
theorem Way.in_ {n : Int} {ts : List T3} (g : GW n ts) {x y d : Int} (w : Way ts x y d) (hx : 0 ≤ x) (hx' : x < n) : 0 ≤ y ∧ y < n := by
  induction w with
  | nil => exact ⟨hx, hx'⟩
  | cons ha _ ih => have := g.adj ha; exact ih this.2.2.1 this.2.2.2.1
theorem Btw.self {n : Int} {ts : List T3} (g : GW n ts) {x y d : Int} (h : IsD ts x y d) : Btw ts x y x := ⟨0, d, isD_self g x, h, by rw [Int.zero_add]; exact h⟩
theorem isD_zero {n : Int} {ts : List T3} (g : GW n ts) {x y d : Int} (h : IsD ts x y d) : d = 0 ↔ x = y := by
  constructor
  · intro e; subst e; exact h.1.zero g
  · intro e; subst e; exact IsD.uniq h (isD_self g x)
theorem Btw.trans {ts : List T3} {x y p q : Int} (h : Btw ts x y p) (h' : Btw ts x p q) : Btw ts x y q := by
  obtain ⟨a, b, h1, h2, h3⟩ := h
  obtain ⟨c, e, k1, k2, k3⟩ := h'
  have e1 : a = c + e := IsD.uniq h1 k3
  refine ⟨c, e + b, k1, ⟨k2.1.trans h2.1, fun f hf => ?_⟩, ?_⟩
  · have := h3.2 _ (k1.1.trans hf)
    omega
  · rw [e1, Int.add_assoc] at h3; exact h3
/-- where there is a way there is a least one (of ways of whole numbers that are not below 0) -/
theorem Way.least {n : Int} {ts : List T3} (g : GW n ts) {x y d : Int} (h : Way ts x y d) : ∃ e, IsD ts x y e := by
  have : ∀ (m : Nat) (d : Int), Way ts x y d → d.toNat ≤ m → ∃ e, IsD ts x y e := by
    intro m
    induction m with
    | zero =>
      intro d hd hm
      have := hd.nn g
      have e : d = 0 := by omega
      subst e
      exact ⟨0, hd, fun f hf => hf.nn g⟩
    | succ m ih =>
      intro d hd hm
      by_cases hl : ∃ f, Way ts x y f ∧ f < d
      · obtain ⟨f, hf, hlt⟩ := hl
        have := hf.nn g
        exact ih f hf (by omega)
      · refine ⟨d, hd, fun f hf => ?_⟩
        apply Classical.byContradiction
        intro hn
        exact hl ⟨f, hf, by omega⟩
  exact this _ d h (Nat.le_refl _)
theorem Nxt.exists {n : Int} {ts : List T3} (g : GW n ts) {x y d : Int} (h : IsD ts x y d) (hne : x ≠ y) : ∃ p, Nxt ts x y p := by
  obtain ⟨hw, hmin⟩ := h
  cases hw with
  | nil => exact absurd rfl hne
  | cons ha w =>
    rename_i z l e
    obtain ⟨f, hf⟩ := w.least g
    have h1 := hf.2 _ w
    have h2 := hmin _ (.cons ha hf.1)
    have : f = e := by omega
    subst this
    exact ⟨z, l, f, ha, hf, .cons ha hf.1, hmin⟩
theorem Nxt.ne {n : Int} {ts : List T3} (g : GW n ts) {x y p : Int} (h : Nxt ts x y p) : x ≠ y := by
  obtain ⟨l, b, ha, hb, hd⟩ := h
  intro e
  subst e
  have := IsD.uniq hd (isD_self g x)
  have := g.adj ha
  have := hb.1.nn g
  omega
/-- a next place of a place between is between -/
theorem Nxt.btw {n : Int} {ts : List T3} (g : GW n ts) {x y p q : Int} (h : Btw ts x y p) (h' : Nxt ts p y q) : Btw ts x y q := by
  obtain ⟨a, b, h1, h2, h3⟩ := h
  obtain ⟨l, c, ha, hc, hd⟩ := h'
  have e1 : b = l + c := IsD.uniq h2 hd
  refine ⟨a + l, c, ⟨h1.1.snoc ha, fun f hf => ?_⟩, hc, ?_⟩
  · have := h3.2 _ (hf.trans hc.1)
    omega
  · rw [e1, ← Int.add_assoc] at h3; exact h3
/-- lengths along a tie -/
theorem Len.tie {n : Int} {ts : List T3} (g : GW n ts) {x a b l : Int} {oa ob : Option Int} (ha : Len ts x a oa) (hb : Len ts x b ob) (h : Adj ts a b l) : (oa.isNone = ob.isNone) ∧ ∀ da db, oa = some da → ob = some db → da - db ≤ l ∧ db - da ≤ l := by
  constructor
  · cases oa with
    | none =>
      cases ob with
      | none => rfl
      | some db => exact absurd (hb.1.snoc h.symm) (ha _)
    | some da =>
      cases ob with
      | none => exact absurd (ha.1.snoc h) (hb _)
      | some db => rfl
  · rintro da db rfl rfl
    have h1 := ha.2 _ (hb.1.snoc h.symm)
    have h2 := hb.2 _ (ha.1.snoc h)
    omega
/-- x to p and x to y are told: then p to y is -/
theorem Len.via {ts : List T3} {x y p a d : Int} {o : Option Int} (h1 : IsD ts x p a) (h2 : IsD ts x y d) (h3 : Len ts p y o) : ∃ b, o = some b ∧ d ≤ a + b := by
  cases o with
  | none => exact absurd (h1.1.symm.trans h2.1) (h3 _)
  | some b => exact ⟨b, rfl, h2.2 _ (h1.1.trans h3.1)⟩
/-- a way gone: the places, and the sum of its longs -/
inductive Steps (ts : List T3) : List Int → Int → Prop where
  | one (x : Int) : Steps ts [x] 0
  | snoc {ps : List Int} {x y s l : Int} : Steps ts (ps ++ [x]) s → Adj ts x y l → Steps ts (ps ++ [x] ++ [y]) (s + l)
theorem Steps.longs {ts : List T3} {ps : List Int} {s : Int} (h : Steps ts ps s) : ∃ ls : List Int, ls.length + 1 = ps.length ∧ ls.sum = s ∧ ∀ (q : Nat) (x y : Int), ps[q]? = some x → ps[q + 1]? = some y → ∃ l, ls[q]? = some l ∧ Adj ts x y l := by
  induction h with
  | one x => exact ⟨[], rfl, rfl, fun q a b _ h => by simp at h⟩
  | snoc _ ha ih =>
    rename_i ps x y s l hs
    obtain ⟨ls, h1, h2, h3⟩ := ih
    have hl : ls.length = ps.length := by simpa using h1
    refine ⟨ls ++ [l], by simp [hl], by rw [List.sum_append, h2]; simp, fun q a b ha' hb' => ?_⟩
    by_cases hq : q + 1 < (ps ++ [x]).length
    · rw [List.getElem?_append_left (by omega)] at ha'
      rw [List.getElem?_append_left hq] at hb'
      obtain ⟨l', e1, e2⟩ := h3 q a b ha' hb'
      have hlt : q < ls.length := (List.getElem?_eq_some_iff.mp e1).1
      exact ⟨l', by rw [List.getElem?_append_left hlt]; exact e1, e2⟩
    · have hq2 : q + 1 < (ps ++ [x] ++ [y]).length := (List.getElem?_eq_some_iff.mp hb').1
      simp only [List.length_append, List.length_cons, List.length_nil] at hq hq2
      have e : q = ps.length := by omega
      subst e
      have e1 : a = x := by
        rw [List.getElem?_append_left (by simp), List.getElem?_append_right (Nat.le_refl _)] at ha'
        simpa using ha'.symm
      have e2 : b = y := by
        rw [List.getElem?_append_right (by simp)] at hb'
        simpa using hb'.symm
      subst e1 e2
      exact ⟨l, by rw [List.getElem?_append_right (by omega)]; simp [hl], ha⟩
theorem Steps.ne {ts : List T3} {ps : List Int} {s : Int} (h : Steps ts ps s) : ps ≠ [] := by
  cases h with
  | one x => simp
  | snoc _ _ => simp
end WM
/-! ### a way gone by next places -/
namespace WM
structure Led (ts : List T3) (n x y D : Int) (found : List Int) (s z r : Int) : Prop where
  st : Steps ts found s
  ls : ∃ pre, found = pre ++ [z]
  rm : IsD ts z y r
  sm : s + r = D
  bt : Btw ts x y z
  nd : found.Nodup
  fa : ∀ f ∈ found, 0 ≤ f ∧ f < n ∧ ∃ rf, IsD ts f y rf ∧ r ≤ rf
theorem Led.start {n : Int} {ts : List T3} (g : GW n ts) {x y D : Int} (hx : 0 ≤ x) (hx' : x < n) (h : IsD ts x y D) : Led ts n x y D [x] 0 x D :=
  ⟨.one x, ⟨[], rfl⟩, h, by omega, Btw.self g h, by simp, fun f hf => by rw [List.mem_singleton.mp hf]; exact ⟨hx, hx', D, h, Int.le_refl _⟩⟩
theorem Led.step {n : Int} {ts : List T3} (g : GW n ts) {x y D : Int} {found : List Int} {s z r p : Int} (h : Led ts n x y D found s z r) (hp : Nxt ts z y p) : ∃ s' r', Led ts n x y D (found ++ [p]) s' p r' := by
  obtain ⟨l, b, ha, hb, hd⟩ := id hp
  have e : r = l + b := IsD.uniq h.rm hd
  have hadj := g.adj ha
  obtain ⟨pre, hpre⟩ := h.ls
  refine ⟨s + l, b, ?_, ⟨found, rfl⟩, hb, by have := h.sm; omega, Nxt.btw g h.bt hp, ?_, fun f hf => ?_⟩
  · have := h.st
    rw [hpre] at this ⊢
    exact .snoc this ha
  · rw [List.nodup_append]
    refine ⟨h.nd, by simp, fun a ha' b' hb' => ?_⟩
    rw [List.mem_singleton.mp hb']
    intro e2
    subst e2
    obtain ⟨_, _, rf, h1, h2⟩ := h.fa a ha'
    have := IsD.uniq h1 hb
    omega
  · rcases List.mem_append.mp hf with q | q
    · obtain ⟨a, b', rf, h1, h2⟩ := h.fa f q
      exact ⟨a, b', rf, h1, by omega⟩
    · rw [List.mem_singleton.mp q]
      exact ⟨hadj.2.2.1, hadj.2.2.2.1, b, hb, Int.le_refl _⟩
theorem Led.len {n : Int} {ts : List T3} {x y D : Int} {found : List Int} {s z r : Int} (h : Led ts n x y D found s z r) (hn : 0 ≤ n) : (found.length : Int) ≤ n := by
  have := nd_len (n := n.toNat) h.nd fun f hf => by
    obtain ⟨a, b, _⟩ := h.fa f hf
    omega
  omega
theorem Led.in_ {n : Int} {ts : List T3} {x y D : Int} {found : List Int} {s z r : Int} (h : Led ts n x y D found s z r) : 0 ≤ z ∧ z < n := by
  obtain ⟨pre, e⟩ := h.ls
  obtain ⟨a, b, _⟩ := h.fa z (by rw [e]; simp)
  exact ⟨a, b⟩
end WM
namespace L2
open PySem PySem.Spec PyProof.Rows
/-! ### sorting ints -/
def intO : KeyOrd := ⟨Int, fun a b => decide (a < b), fun a => decide_eq_false (by omega), fun a b c h1 h2 => decide_eq_true (by have := of_decide_eq_true h1; have := of_decide_eq_true h2; omega),
  fun a b c h => by
    have h' : a < c := of_decide_eq_true h
    by_cases hab : a < b
    · exact .inl (decide_eq_true hab)
    · exact .inr (decide_eq_true (by omega)),
  fun a b h1 h2 => by have := of_decide_eq_false h1; have := of_decide_eq_false h2; omega⟩
theorem asks_ints {prog : Program} {w : World} {A : Around} {s : Shared} {a : Addr} {vs : List Value} {ns : List Int} (hI : IntsAre vs ns) (h2 : 2 ≤ vs.length) :
    SortT.Asks prog w A s a vs (O := intO) (fun i => ns.getD i 0) oneType' := by
  have hl := hI.length
  have at_ : ∀ i, i < vs.length → ∃ t, vs.getD i Value.none = .int (ns.getD i 0) t := fun i hi => by
    obtain ⟨n, hn⟩ : ∃ n, ns[i]? = some n := ⟨_, List.getElem?_eq_getElem (by omega)⟩
    obtain ⟨t, ht⟩ := hI.get i n hn
    exact ⟨t, by rw [List.getD_eq_getElem?_getD, List.getD_eq_getElem?_getD, ht, hn]; rfl⟩
  refine ⟨fun h' Q E kh q => ?_, fun h' i j Q E kh hi hj q => ?_⟩
  · rw [ksk_kind (keys := vs.toArray) (kz := ns) (by simpa using hI) (by simpa using h2)]
    exact wpAny_pure q
  · obtain ⟨t, e1⟩ := at_ i hi
    obtain ⟨u, e2⟩ := at_ j hj
    rw [e1, e2]
    exact PySem.W.kat_lt_int q
/-- ints put in order -/
theorem put_ints {vs : List Value} {ns : List Int} {out : List Nat} (hI : IntsAre vs ns) (p : SortT.Put (O := intO) (fun i => ns.getD i 0) vs.length out) :
    ∃ ms : List Int, ms.Perm ns ∧ ms.Pairwise (· ≤ ·) ∧ Vals (ms.map V.int) (out.map fun i => vs.getD i Value.none) ∧ ms.length = ns.length := by
  have hl := hI.length
  have hb : ∀ i ∈ out, i < vs.length := fun i hi => List.mem_range.mp (p.perm.mem_iff.mp hi)
  refine ⟨out.map fun i => ns.getD i 0, ?_, ?_, ?_, ?_⟩
  · have h1 := p.perm.map fun i => ns.getD i 0
    have h2 : (List.range vs.length).map (fun i => ns.getD i 0) = ns := by
      rw [show vs.length = ns.length by omega]
      apply List.ext_getElem?
      intro j
      rw [List.getElem?_map]
      by_cases hj : j < ns.length
      · rw [List.getElem?_range hj, List.getElem?_eq_getElem hj]; simp [hj]
      · rw [List.getElem?_eq_none (by rw [List.length_range]; omega), List.getElem?_eq_none (by omega)]; rfl
    rw [h2] at h1
    exact h1
  · refine List.pairwise_iff_getElem.mpr fun i j hi hj hij => ?_
    rw [List.length_map] at hi hj
    have := p.rise i j out[i] out[j] (Nat.le_of_lt hij) (by simp) (by simp)
    have h3 : decide (ns.getD out[j] 0 < ns.getD out[i] 0) = false := this
    have h4 := of_decide_eq_false h3
    rw [List.getElem_map, List.getElem_map]
    omega
  · have : ∀ l : List Nat, (∀ i ∈ l, i < vs.length) → Vals ((l.map fun i => ns.getD i 0).map V.int) (l.map fun i => vs.getD i Value.none) := by
      intro l
      induction l with
      | nil => intro _; exact .nil
      | cons i l ih =>
        intro h
        have hi := h i List.mem_cons_self
        obtain ⟨n, hn⟩ : ∃ n, ns[i]? = some n := ⟨_, List.getElem?_eq_getElem (by omega)⟩
        obtain ⟨t, ht⟩ := hI.get i n hn
        refine .cons ?_ (ih fun j hj => h j (List.mem_cons_of_mem _ hj))
        show RelV (V.int (ns.getD i 0)) (vs.getD i Value.none)
        rw [List.getD_eq_getElem?_getD, List.getD_eq_getElem?_getD, ht, hn]
        exact ⟨t, rfl⟩
    exact this out hb
  · rw [List.length_map, p.perm.length_eq, List.length_range]; omega
section
variable {X : Cx}
/-- sorted of a dict whose keys are ints -/
theorem call_sortedK (hc : X.calm = true) : CallR X (.builtin "sorted") (fun xs H Q => ∃ p kvs ns, xs = [.ref p] ∧ H p = some (.dK kvs) ∧ kvs.map (·.1) = ns.map Sum.inl ∧ ns.length < 64 ∧
    ∀ (l : Addr) (ms : List Int), H l = none → ms.Perm ns → ms.Pairwise (· ≤ ·) → Q (.ref l) (upd H l (.lst (ms.map V.int)))) := by
  intro pins s σ H xs us Q I r h
  obtain ⟨p, kvs, ns, rfl, hd, hks, h64, q⟩ := h
  obtain ⟨u, rfl, rx⟩ := vals1 r
  cases rx
  obtain ⟨hz, lo, vs, rel, o, es, ep, ho, hx, hdat, _, hpr, hnd⟩ := dk_of I.hok hd
  have key : ∀ (es : List DictEntry) (kvs : List (Key × V)) (vs : List (Key × Value)) (ns : List Int), KV kvs vs → Pairs (mixKind X.prog X.w) es vs → kvs.map (·.1) = ns.map Sum.inl → IntsAre (es.map (·.key)) ns := by
    intro es
    induction es with
    | nil =>
      intro kvs vs ns rel pr e
      cases pr
      cases rel
      cases ns with
      | nil => exact .nil
      | cons n ns => simp at e
    | cons d es ih =>
      intro kvs vs ns rel pr e
      cases pr with
      | cons k1 k2 k3 =>
        cases rel with
        | cons hpq t =>
          cases ns with
          | nil => simp at e
          | cons n ns =>
            simp only [List.map_cons, List.cons.injEq] at e
            rw [← hpq.1, e.1] at k1
            obtain ⟨t0, e0⟩ := Value.isInt_shape (k := n) (v := d.key) k1
            rw [List.map_cons, e0]
            exact .cons n t0 (ih _ _ _ t k3 e.2)
  have hI : IntsAre (es.toList.map (·.key)) ns := key _ _ _ _ rel hpr hks
  have hl := hI.length
  refine SortT.sorted_dict (O := intO) (key := fun i => ns.getD i 0) (κ := oneType') (vs := es.toList.map (·.key)) (I.ok.hd hc) lo ⟨o, ho, hx, hdat⟩ rfl (by omega) (fun h2 s' a fa kp => asks_ints hI h2) fun h1 D h' t' out c pt k1 hD k2 ho => ?_
  obtain ⟨ms, hp, hr, rz, hlz⟩ := put_ints hI pt
  have I1 : Inv X pins σ H { s with heap := h1, toks := s.toks } := I.kept k1
  refine ⟨.ref D, _, sorted_fin (s := { s with heap := h1, toks := s.toks }) (t' := t') I1 hD k2 ho rz ?_, rfl, q D ms (I1.hok.fresh hD) hp hr⟩
  have : sizeLine = 16777216 := rfl
  rw [List.length_map]
  omega
end

/-! ### a code's table of its lambdas -/
def CodePhi (c : Addr) (q : Str) : Heap → Prop := fun h => ∃ o vs t, h.get? c = some o ∧ o.data = .fields vs ∧ vs[1]? = some (.str q t)
/-- the table at P: nothing yet of the lambda at pos, or its code, which is tracked -/
def TabAt (H : Hp) (P : Addr) (pos : Pos) (q : Str) : Prop := ∃ ps, H P = some (.tbl ps) ∧ TriplesOk ps.toList ∧ (codeAmong pos ps.toList = none ∨ ∃ c, codeAmong pos ps.toList = some (.ref c) ∧ H c = some (.ext (CodePhi c q)))
/-- all that was tracked, but tables, is as it was -/
def SmT (H H' : Hp) : Prop := ∀ b o, H b = some o → (∃ ps, o = .tbl ps) ∨ H' b = some o
theorem SmT.refl (H : Hp) : SmT H H := fun _ _ e => .inr e
theorem SmT.of {H H' : Hp} (h : Same H H') : SmT H H' := fun b o e => .inr (h b o e)
theorem SmT.trans {H H1 H2 : Hp} (a : SmT H H1) (b : SmT H1 H2) : SmT H H2 := fun c o e => by
  rcases a c o e with z | z
  · exact .inl z
  · exact b c o z
theorem TabAt.keep {H H' : Hp} {P : Addr} {pos : Pos} {q : Str} (h : TabAt H P pos q) (k : ∀ o, H P = some o → H' P = some o) (k2 : ∀ c φ, H c = some (.ext φ) → H' c = some (.ext φ)) : TabAt H' P pos q := by
  obtain ⟨ps, a, b, c⟩ := h
  exact ⟨ps, k _ a, b, c.imp id fun ⟨c, e, f⟩ => ⟨c, e, k2 _ _ f⟩⟩
theorem TabAt.same {H H' : Hp} {P : Addr} {pos : Pos} {q : Str} (h : TabAt H P pos q) (k : Same H H') : TabAt H' P pos q := h.keep (fun _ => k _ _) fun _ _ => k _ _
/-- where the module's own builtins lie -/
def BmAt (mg : Str → Option Value) (h : Heap) : Prop := ∃ bm ob, mg "__builtins__" = some (.ref bm) ∧ bm ≠ builtinsNs ∧ h.get? bm = some ob ∧ ob.cls = .type "module" ∧ ob.dict = some builtinsNs ∧ ob.data = .plain
theorem ns_inj {h : Heap} {a : Addr} {m m' : Str → Option Value} (x : h.Ns a m) (y : h.Ns a m') : m = m' := by
  obtain ⟨o, es, ep, e, d, _, f⟩ := x
  obtain ⟨o', es', ep', e', d', _, f'⟩ := y
  rw [e] at e'; cases e'
  rw [d] at d'; cases d'
  funext n
  rw [← f n, ← f' n]

section
variable {X : Cx} {pins : List (Addr × Obj)} {σ : St} {H : Hp} {s : Shared}
theorem Inv.growL {Pt c' : Addr} {ps more : Array Value} {o : HO} {t' : Nat} {h' : Heap} (I : Inv X pins σ H s) (hP : H Pt = some (.tbl ps)) (hp : s.heap.objs.size ≤ c') (k : ∀ b u, b ≠ Pt → s.heap.get? b = some u → h'.get? b = some u)
    (newP : h'.get? Pt = some (PySem.W.tabObj (ps ++ more))) (new : ObjOk X.prog X.w (upd (upd H Pt (.tbl (ps ++ more))) c' o) h' c' o) :
    Inv X pins σ (upd (upd H Pt (.tbl (ps ++ more))) c' o) { s with heap := h', toks := t' } := by
  have hc : H c' = none := I.hok.fresh hp
  have nP : ∀ b, H b = none → b ≠ Pt := fun b n z => by rw [z, hP] at n; cases n
  have nc : ∀ b u, s.heap.get? b = some u → b ≠ c' := fun b u e => Nat.ne_of_lt (Nat.lt_of_lt_of_le (Heap.lt_size e) hp)
  have up : ∀ b u, H b = some u → b ≠ Pt → (upd (upd H Pt (.tbl (ps ++ more))) c' o) b = some u := fun b u e hb => by rw [upd_ne (ne_of_none e hc), upd_ne hb]; exact e
  refine I.un ⟨fun b u e n _ _ => k b u (nP b n) e, fun b u e n _ _ => ⟨u.slots, k b u (nP b n) e⟩, fun b u e n _ => by rw [upd_ne (nc b u e), upd_ne (nP b n)]; exact n, fun b u e _ => ?_, fun b xs e => up b _ e (ne_of e hP (by intro z; cases z)), fun b ob u e => up b _ e (ne_of e hP (by intro z; cases z)), fun b qs e => ?_⟩ ?_
  · by_cases hb : b = Pt
    · rw [hb]; exact ⟨_, newP⟩
    · exact ⟨u, k b u hb e⟩
  · by_cases hb : b = Pt
    · subst hb
      rw [hP] at e; cases e
      exact ⟨more, by rw [upd_ne (ne_of_none hP hc), upd_same]⟩
    · exact ⟨#[], by rw [up b _ e hb]; simp⟩
  · intro b u e
    by_cases hbc : b = c'
    · subst hbc; rw [upd_same] at e; cases e; exact new
    · rw [upd_ne hbc] at e
      by_cases hb : b = Pt
      · subst hb; rw [upd_same] at e; cases e; exact newP
      · rw [upd_ne hb] at e
        refine (I.hok b u e).stay (fun d v hd q => k d v ?_ q) (fun d q => up d _ q (ne_of q hP (by intro z; cases z))) fun d xs q => up d _ q (ne_of q hP (by intro z; cases z))
        rcases hd with z | z
        · rw [z]; exact hb
        · exact ne_of z hP (by intro z'; cases z')

/-- a lambda is made: its object at f, untracked; its code in the table -/
theorem lam_ev {P c : Addr} {params : Arguments} {body : Expr} {lscope : Scope} {lpos : Pos} {Q : Value → Shared → Prop} {E : Value → Shared → Prop} (I : Inv X pins σ H s) (T : TabAt H P lpos (X.env.qual ++ "<lambda>"))
    (hcode : X.env.code = .ref c) (C : PySem.W.CodeHd X.base c P) (hbm : BmAt X.mg X.base) (hfree : ∀ y ∈ lscope.names, y.2 = .free → X.env.kindOf y.1 = some .cell) (hdef : defaultsOf params X.env = ([], []))
    (h : ∀ (f : Addr) (pm cv ctv : Value) (s' : Shared) (H' : Hp), Inv X pins σ H' s' → SmT H H' → TabAt H' P lpos (X.env.qual ++ "<lambda>") → s.heap.objs.size ≤ f →
      s'.heap.get? f = some { cls := .type "function", data := .func (PySem.W.kla_fn "<lambda>" (X.env.qual ++ "<lambda>") params body lscope (clOf X.env.cells lscope.names []) pm cv ctv) } →
      s'.heap.CodeRec cv (X.env.qual ++ "<lambda>") → Q (.ref f) s') :
    wpAny (model X.prog X.w) X.A (eval (.Lambda params body lscope lpos) X.env) Q E s := by
  obtain ⟨ps, hP, ht, hcase⟩ := T
  have oP : s.heap.get? P = some (PySem.W.tabObj ps) := I.hok P _ hP
  have hg := I.mod.glob.keeps I.bk
  have C' : PySem.W.CodeHd s.heap c P := C.keeps I.bk
  have hcl : closureFor lscope X.env = pure (clOf X.env.cells lscope.names []) := closureFor_eq fun y hy hf => I.ok.has y.1 (.inl (hfree y hy hf))
  have nP : ∀ b o, X.base.get? b = some o → b ≠ P := fun b o e z => by
    have := (I.bs b o e).2
    rw [z, hP] at this; cases this
  have hgP : mainGlobals ≠ P := by
    obtain ⟨o, es, ep, e, _⟩ := I.mod.glob
    exact nP _ _ e
  have hb : s.heap.BuiltinsAt X.mg P := by
    obtain ⟨bm, ob, b1, b2, b3, b4, b5, b6⟩ := hbm
    refine ⟨bm, ob, b1, b2, fun z => ?_, nP _ _ b3, I.bk _ _ b3, b4, b5, b6⟩
    obtain ⟨o, es, ep, e, hd, _⟩ := I.mod.glob
    rw [z, e] at b3; cases b3; rw [hd] at b6; cases b6
  refine PySem.W.kla_eval hdef ?_
  rcases hcase with hn | ⟨c1, hc1, hH⟩
  · refine PySem.W.kla_makeFunction (mg := X.mg) hcl I.ok.glob hg hcode C' oP ht hn hgP hb fun c' ctv h' tk hx hge hlt hrec htb => ?_
    obtain ⟨c2, oc, vs, t, e2, hoc, hd, hv⟩ := id hrec
    cases e2
    have kp : ∀ b u, b ≠ P → s.heap.get? b = some u → (h'.push (PySem.W.kla_obj "<lambda>" (X.env.qual ++ "<lambda>") params body lscope (clOf X.env.cells lscope.names []) ((X.mg "__name__").getD .none) c' ctv)).get? b = some u := fun b u hb' e => Heap.get?_push_of_some _ (hx b u hb' e)
    have hcn : H c' = none := I.hok.fresh hge
    have nPc : P ≠ c' := ne_of_none hP hcn
    refine h h'.objs.size ((X.mg "__name__").getD .none) (.ref c') ctv _ _ (I.growL (c' := c') (o := .ext (CodePhi c' (X.env.qual ++ "<lambda>"))) (t' := tk) hP hge kp (Heap.get?_push_of_some _ htb) ⟨⟨oc, vs, t, Heap.get?_push_of_some _ hoc, hd, hv⟩, ⟨oc, Heap.get?_push_of_some _ hoc⟩, fun h1 h2 ⟨o1, v1, t1, a1, a2, a3⟩ k12 => ⟨o1, v1, t1, k12 _ a1, a2, a3⟩⟩) ?_ ?_ ?_ ?_ ?_
    · intro b o e
      by_cases hbP : b = P
      · left
        rw [hbP, hP] at e
        exact ⟨ps, (Option.some.inj e).symm⟩
      · right
        rw [upd_ne (ne_of_none e hcn), upd_ne hbP]; exact e
    · refine ⟨ps ++ #[rawInt lpos.line, rawInt lpos.col, .ref c'], by rw [upd_ne nPc, upd_same], ?_, .inr ⟨c', ?_, upd_same⟩⟩
      · rw [Array.toList_append]; exact TriplesOk_snoc _ _ _ _ ht
      · rw [Array.toList_append]; exact codeAmong_snoc _ ht hn
    · have := Nat.le_of_lt (Nat.lt_of_le_of_lt hge hlt)
      exact this
    · exact Heap.get?_push_size _ rfl
    · exact hrec.keeps fun b o e => Heap.get?_push_of_some _ e
  · obtain ⟨⟨oc, vs, t, hoc, hd, hv⟩, _⟩ := I.hok c1 _ hH
    refine PySem.W.kla_makeFunctionHit (mg := X.mg) hcl I.ok.glob hg hcode C' oP ht hc1 hb fun ctv h' tk hk hsz => ?_
    refine h h'.objs.size ((X.mg "__name__").getD .none) (.ref c1) ctv _ _ (I.kept (t' := tk) fun b u e => Heap.get?_push_of_some _ (hk b u e)) (SmT.refl _) ⟨ps, hP, ht, .inr ⟨c1, hc1, hH⟩⟩ hsz (Heap.get?_push_size _ rfl) ⟨c1, oc, vs, t, rfl, Heap.get?_push_of_some _ (hk _ _ hoc), hd, hv⟩
end

theorem free_of {X : Cx} {sc : Scope} (h : (sc.names.all fun y => y.2 != .free || X.env.kindOf y.1 == some .cell) = true) : ∀ y ∈ sc.names, y.2 = .free → X.env.kindOf y.1 = some .cell := fun y hy e => by
  have a := List.all_eq_true.mp h y hy
  rw [e] at a
  simpa using a
section
variable {X : Cx}
/-- min(l, key = lambda x: d[x]): l a list of ints, d a dict that has them all as keys, ints their values -/
def tMinKey (j : Nat) (P : Addr) (lpos : Pos) (q : Str) (t : TA) : TE := fun σ H Q => t σ H fun vs H1 => ∃ (l d : Addr) (ns : List Int) (kvs : List (Key × V)) (val : Int → Int), vs = [.ref l] ∧ H1 l = some (.lst (ns.map V.int)) ∧ ns ≠ [] ∧ σ[j]? = some (some (.ref d)) ∧ H1 d = some (.dK kvs) ∧
  (∀ n ∈ ns, valV kvs (Sum.inl n) = some (.int (val n))) ∧ TabAt H1 P lpos q ∧ ∀ (M : Int) (H2 : Hp), M ∈ ns → (∀ n ∈ ns, val M ≤ val n) → SmT H1 H2 → TabAt H2 P lpos q → Q (.int M) H2
theorem pe_minkey {k j : Nat} {P c : Addr} {dn pn : Str} {e : Expr} {t : TA} {params : Arguments} {lscope : Scope} {lpos pos np p1 p2 p3 kpos : Pos}
    (hc : X.calm = true) (hr : Room (k + 1) X.A) (hg : Gl X "min") (hm : X.mg "min" = none) (he : PA X [e] t) (hcode : X.env.code = .ref c) (C : PySem.W.CodeHd X.base c P) (hbm : BmAt X.mg X.base)
    (hN : X.N[j]? = some dn) (hkd : X.env.kindOf dn = some .cell) (hS : lscope.kind = .function) (hco : lscope.isCoroutine = false) (hgen : lscope.isGenerator = false) (hcell : ∀ x ∈ lscope.names, x.2 ≠ .cell)
    (hfree : ∀ y ∈ lscope.names, y.2 = .free → X.env.kindOf y.1 = some .cell) (hdn : lscope.names.lookup dn = some .free) (hpn : lscope.names.lookup pn = some .local) (hdef : defaultsOf params X.env = ([], []))
    (hbind : ∀ (q : Str) (body : Expr) (cl : List (Str × Addr)) (pm cdv ct v : Value), bindArgs (PySem.W.kla_fn "<lambda>" q params body lscope cl pm cdv ct) ⟨[v], []⟩ = pure [(pn, v)])
    (hd1 : (dn == ("__debug__" : Str)) = false := by decide) (hd2 : (dn == ("__classdict__" : Str)) = false := by decide) (hd3 : (pn == ("__debug__" : Str)) = false := by decide)
    (hs1 : backTo pos (starEach [e] X.env) = (false, eval e X.env) :: backTo pos (starEach [] X.env) := by rfl) (hs2 : (backTo pos (starEach [e] X.env)).any (·.1) = false := by rfl) :
    PE X (.Call (.Name "min" np) [e] [⟨some "key", .Lambda params (.Subscript (.Name dn p1) (.Name pn p2) p3) lscope lpos, kpos⟩] pos) (tMinKey j P lpos (X.env.qual ++ "<lambda>") t) := by
  intro pins s σ H Q I h
  refine wpAny_Call_Name_kw (ld_blt I hg hm (by decide +kernel : bootBuiltins "min" = some (.builtin "min")) ?_)
  refine PyProof.Rows.callWith_kw (thn (he pos pins s σ H _ I h) fun us s1 ⟨vs, H1, I1, r, q1⟩ => ?_) hs1 hs2
  obtain ⟨l, d, ns, kvs, val, rfl, hl, hne, hσ, hdd, hval, T, q⟩ := q1
  obtain ⟨u, rfl, rx⟩ := vals1 r
  cases rx
  show wpAny _ _ (evalAll ((do let v ← eval (.Lambda params (.Subscript (.Name dn p1) (.Name pn p2) p3) lscope lpos) X.env; standAt pos; pure v) :: [])) _ _ s1
  refine wpAny_evalAll_cons (wpAny_bind (lam_ev I1 T hcode C hbm hfree hdef fun f pm cv ctv s2 H2 I2 sm T2 hfge hf hrec => wpAny_bind (wpAny_standAt (wpAny_pure (wpAny_evalAll_nil ?_)))))
  show wpAny _ _ (call (.builtin "min") [.ref l] [(Str.ofString "key", .ref f)]) _ _ s2
  have keep2 : ∀ b o, H1 b = some o → (∀ ps, o ≠ .tbl ps) → H2 b = some o := fun b o e ho => by
    rcases sm b o e with ⟨ps, z⟩ | z
    · exact absurd z (ho ps)
    · exact z
  have hl2 : H2 l = some (.lst (ns.map V.int)) := keep2 _ _ hl (by intro ps z; cases z)
  have hd2' : H2 d = some (.dK kvs) := keep2 _ _ hdd (by intro ps z; cases z)
  obtain ⟨_, its, nn, rv, ho⟩ := I2.hok l _ hl2
  obtain ⟨hz, lo, vs, rel, od, es, ep, hod, hdr⟩ := dk_of I2.hok hd2'
  have hI : IntsAre its ns := intsAre_of rv
  obtain ⟨m, F0⟩ := I2.fr
  have notL : ∀ b o, H2 b = some o → b ≠ X.env.locals := fun b o e z => by rw [z, I2.free] at e; cases e
  have kp : ∀ (h' : Heap) (own : List (Addr × Obj)), Fr X.base X.env.locals h' m → News X.base X.env.locals h' (allNews X.base s2.heap X.env.locals ++ own) → ∀ b o, b ≠ X.env.locals → s2.heap.get? b = some o → h'.get? b = some o := fun h' own F' N' b o hb e' => by
    cases qb : X.base.get? b with
    | some u =>
      have z := I2.bk b u qb
      rw [e'] at z; cases z
      exact F'.keep b _ qb
    | none => exact (N' (b, o) (List.mem_append_left _ (mem_allNews hb qb e'))).1
  -- the cell of d
  obtain ⟨m', hn', hloc⟩ := I2.loc
  have em : m' = m := ns_inj hn' F0.ns
  subst em
  obtain ⟨ud, rd, lk⟩ := hloc j dn (.ref d) hN hσ (.inr (.inl hkd))
  cases (show ud = Value.ref d from rd)
  obtain ⟨cc, hcc, oc, hoc, hdc⟩ : ∃ cc, X.env.cells.lookup dn = some cc ∧ s2.heap.IsCell cc (some (.ref d)) := by
    rcases lk with ⟨z, _⟩ | ⟨_, cc, a, b⟩
    · rw [hkd] at z; cases z
    · exact ⟨cc, a, b⟩
  have hcl : (clOf X.env.cells lscope.names []).lookup dn = some cc := by
    obtain ⟨c', hc'⟩ := clOf_has ⟨cc, hcc⟩ lscope.names [] (PySem.mem_of_lookup hdn)
    rcases clOf_sub _ _ hc' with z | z
    · simp at z
    · rw [hcc] at z; cases z; exact hc'
  have hsz0 : X.env.locals < s1.heap.objs.size := I1.lt
  have hfL : f ≠ X.env.locals := Nat.ne_of_gt (Nat.lt_of_lt_of_le hsz0 hfge)
  refine PyProof.Rows.kmk_min_letter (h₀ := X.base) (L := X.env.locals) (m := m') (news := allNews X.base s2.heap X.env.locals) (ns := ns) val (I2.ok.hd hc) F0 news_all (fun h' F' N' => ?_) hI (List.length_pos_iff.mpr hne) (fun n tn h' tk own hn F' N' => ?_) (fun M tM h' tk F' N' hM hbest => ?_)
  · exact ⟨_, kp h' [] F' (by rw [List.append_nil]; exact N') l _ (notL _ _ hl2) ho, rfl, nn, rfl⟩
  · have kk := kp h' own F' N'
    obtain ⟨c1, o1, v1, t1, e1, ho1, hd1', hv1⟩ := id hrec
    subst e1
    have hc1L : c1 ≠ X.env.locals ∨ True := .inr trivial
    have rec' : h'.CodeRec (.ref c1) (X.env.qual ++ "<lambda>") := by
      refine ⟨c1, o1, v1, t1, rfl, kk c1 o1 (fun z => ?_) ho1, hd1', hv1⟩
      obtain ⟨oL, esL, epL, hoL, hdL, _⟩ := F0.ns
      rw [z, hoL] at ho1; cases ho1; rw [hdL] at hd1'; cases hd1'
    refine wpAny_call (PySem.W.kla_callFunE hr.in1.depth (kk f _ hfL hf) rfl hco hgen rfl rec' ?_)
    rw [hbind]
    refine wpAny_pure (wpAny_newFunctionEnv hcell (fun y hy => ?_) (fun h₁ hns hsb => ?_) hS)
    · obtain rfl : y = (pn, Value.int n tn) := List.mem_singleton.mp hy
      exact hpn
    · have hk₁ : ∀ b o, h'.get? b = some o → h₁.get? b = some o := fun b o e' => hsb.extBut b o (Nat.ne_of_lt (Heap.lt_size e')) (Heap.get?_push_of_some _ e')
      refine ⟨I2.mod.nolimit.keeps fun b o e' => hk₁ b o (F'.keep b o e'), ?_⟩
      show codeAny _ _ (.expr (.Subscript (.Name dn p1) (.Name pn p2) p3) (PySem.W.envX (X.env.qual ++ "<lambda>") lscope h'.objs.size f (.ref c1) (clOf X.env.cells lscope.names []))) _ _
      refine PySem.W.kla_codeExpr (subD_of PySem.F.slot_dict_getitem.lookup (fun _ _ => rfl) ?_)
      refine wpAny_Name (wpAny_loadName_free hS (show (PySem.W.envX (X.env.qual ++ "<lambda>") lscope h'.objs.size f (.ref c1) (clOf X.env.cells lscope.names [])).kindOf dn = some .free from hdn) hcl ⟨oc, hk₁ _ _ (kk cc oc (I2.cne dn cc hcc) hoc), hdc⟩ ?_ hd2) hd1
      refine wpAny_Name (wpAny_loadName_local hS (show (PySem.W.envX (X.env.qual ++ "<lambda>") lscope h'.objs.size f (.ref c1) (clOf X.env.cells lscope.names [])).kindOf pn = some .local from hpn) hns (v := .int n tn) (by simp) ?_) hd3
      have dd : h₁.DictOf (mixKind X.prog X.w) d vs := ⟨od, es, ep, hk₁ _ _ (kk d od (notL _ _ hd2') hod), hdr⟩
      refine ⟨dd.typeIs, ?_⟩
      obtain ⟨w', hw, rw'⟩ := RelO.some_of (v := .int (val n)) (o := valueAt vs (Sum.inl n)) (by rw [← hval n hn]; exact rel.val (Sum.inl n))
      obtain ⟨t', rfl⟩ := rw'
      refine wpAny_getItem_of (kV_is (k := Sum.inl n) ⟨tn, rfl⟩) dd.mapOf hw ?_
      exact ⟨h₁, _, t', rfl, rfl, ⟨F'.ns.keeps hk₁, fun b o e' => hk₁ b o (F'.keep b o e'), F'.above⟩, fun p hp => ⟨hk₁ _ _ (N' p hp).1, (N' p hp).2⟩⟩
  · have kk := kp h' [] F' (by rw [List.append_nil]; exact N')
    have I3 : Inv X pins σ H2 { s2 with heap := h', toks := tk } := by
      refine I2.step (g' := s2.gens) (d' := s2.drawn) (ch := []) (fun _ z => nomatch z) (fun b o hb _ _ e' _ => kk b o hb e') (fun b o hb _ _ e' _ => ⟨o.slots, kk b o hb e'⟩) (fun _ _ _ _ n => n) (fun b o _ e' => ?_) (fun _ _ e' => e') (fun _ _ _ e' => e') (fun b ps e' => ⟨#[], by rw [e']; simp⟩) (fun mm hmm => ?_) ?_ I2.bare
      · by_cases hb : b = X.env.locals
        · obtain ⟨oL, esL, epL, hoL, _⟩ := F'.ns
          exact ⟨oL, by rw [hb]; exact hoL⟩
        · exact ⟨o, kk b o hb e'⟩
      · have := ns_inj hmm F0.ns
        subst this
        exact F'.ns
      · intro b u e'
        refine (I2.hok b u e').stay (fun x v hx z => kk x v ?_ z) (fun _ z => z) fun _ _ z => z
        rcases hx with z1 | z1
        · rw [z1]; exact notL _ _ e'
        · exact notL _ _ z1
    exact ⟨.int M, H2, I3, ⟨tM, rfl⟩, q M H2 hM hbest sm T2⟩
end

/-! ### the head, with a table -/
theorem law_callT {P : Program} {w : World} {K : PySem.W.Frag} {mg mb : Str → Option Value} {CX : CXT} {k : Nat} {fa a PT : Addr} {fd : FuncData} {x : Str} {sp : Sp} {s₁ : Shared} {vs : List Value} {ns : List Int}
    (KX : K.In s₁.heap) (hns : s₁.heap.Ns mainGlobals mg) (hb : s₁.heap.Ns builtinsNs mb) (hbb : ∀ x : Str, x ≠ "__name__" → mb x = bootBuiltins x) (hlim : s₁.heap.NoLimit) (hg : s₁.gens = #[])
    (ha : s₁.heap.get? a = some { cls := .type "list", data := .seq vs.toArray }) (hi : IntsAre vs ns) (hl : ns.length ≤ sizeLine) (hr : Room k callerA)
    (hT : s₁.heap.get? PT = some (PySem.W.tabObj #[])) (hC : isCodeTable s₁.heap PT) (hK : PySem.W.noTabs K = true) (hbm : BmAt mg s₁.heap)
    (F : ∀ base : Heap, K.In base → base.Ns mainGlobals mg → BmAt mg base → FnOk P w K mg base CX k fa fd [x] sp) (hbind : ∀ (s : Shared) (u : Value), BindsTo s fd ⟨[u], []⟩ [(x, u)])
    (hsp : ∀ H : Hp, H PT = some (.tbl #[]) → SqL K H a (ns.map V.int) → sp [.ref a] H (fun v _ => v = .bl true) fun _ _ _ => False)
    (hCX : ∀ H e s', CX [] H s₁ (fun _ _ _ => False) e s' → False) :
    codeAny (model P w) callerA (.call (.ref fa) ⟨[.ref a], []⟩) (fun r s' => r = .ok (.ret (.bool true)) ∧ OldK s₁.heap s'.heap ∧ s'.os = s₁.os ∧ AllBare s'.gens) s₁ := by
  have rv := vals_ints hi
  have lenV := hi.length
  have npa : PT ≠ a := fun e => by rw [e, ha] at hT; cases hT
  have kPT : K.lookup PT = none := by
    cases q : K.lookup PT with
    | none => rfl
    | some o =>
      have e := KX PT o q
      rw [hT] at e
      cases e
      have h2 := List.all_eq_true.mp hK (PT, _) (PySem.W.mem_of_lookupK q)
      exact absurd (show false = true from h2) Bool.false_ne_true
  have core : ∀ H : Hp, (∀ b u, H b = some u → (b = PT ∧ u = .tbl #[]) ∨ (b = a ∧ K.lookup a = none ∧ ∃ o xs, u = .frz o (.lst xs))) → H PT = some (.tbl #[]) → SqL K H a (ns.map V.int) → HOk P w H s₁.heap →
      codeAny (model P w) callerA (.call (.ref fa) ⟨[.ref a], []⟩) (fun r s' => r = .ok (.ret (.bool true)) ∧ OldK s₁.heap s'.heap ∧ s'.os = s₁.os ∧ AllBare s'.gens) s₁ := by
    intro H hA hP hS hok
    have base_of : ∀ {b : Addr} {o : Obj}, s₁.heap.get? b = some o → H b = none → (hidT s₁.heap H).get? b = some o := fun e n => hidT_get e n
    have noA : ∀ {b : Addr} {o : Obj}, s₁.heap.get? b = some o → (∀ ps, o.data ≠ .fields ps) → (∀ ps n, o.data ≠ .seq ps n) → H b = none := fun {b o} e d1 d2 => by
      cases q : H b with
      | none => rfl
      | some u =>
        rcases hA b u q with ⟨rfl, _⟩ | ⟨rfl, _⟩
        · rw [hT] at e; cases e; exact absurd rfl (d1 #[])
        · rw [ha] at e; cases e; exact absurd rfl (d2 _ _)
    have nsK : ∀ {b : Addr} {m : Str → Option Value}, s₁.heap.Ns b m → (hidT s₁.heap H).Ns b m := fun {b m} ⟨o, es, ep, e, d, r⟩ => ⟨o, es, ep, base_of e (noA e (fun ps z => by rw [d] at z; cases z) (fun ps n z => by rw [d] at z; cases z)), d, r⟩
    have hKb : K.In (hidT s₁.heap H) := fun b o e => base_of (KX b o e) (by
      cases q : H b with
      | none => rfl
      | some u =>
        rcases hA b u q with ⟨rfl, _⟩ | ⟨rfl, z, _⟩
        · rw [kPT] at e; cases e
        · rw [z] at e; cases e)
    have hBm : BmAt mg (hidT s₁.heap H) := by
      obtain ⟨bm, ob, b1, b2, b3, b4, b5, b6⟩ := hbm
      exact ⟨bm, ob, b1, b2, base_of b3 (noA b3 (fun ps z => by rw [b6] at z; cases z) (fun ps n z => by rw [b6] at z; cases z)), b4, b5, b6⟩
    have hM : Mod K mg (hidT s₁.heap H) := ⟨hKb, nsK hns, ⟨mb, nsK hb, hbb⟩, let ⟨mc, h1, h2⟩ := hlim; ⟨mc, nsK h1, h2⟩⟩
    have e0 : Env0 P w K mg (hidT s₁.heap H) callerA [] s₁ H := ⟨rfl, hM, fun b o e => of_hidT e, Nat.le_of_eq (hidT_size _ _), trivial, fun b hb => absurd (show b ∈ ([] : List Addr) from hb) (by simp), hok, .of_eq hg⟩
    refine codeAny_mono ((F _ hKb (nsK hns) hBm).run callerA [] s₁ H ⟨[.ref a], []⟩ [.ref a] [.ref a] _ _ hr e0 (hbind s₁ (.ref a)) (.cons rfl .nil) (hsp H hP hS)) fun r s' h => ?_
    cases r with
    | error e => exact (hCX H e s' h).elim
    | ok fl =>
      cases fl with
      | next => exact False.elim h
      | brk => exact False.elim h
      | cont => exact False.elim h
      | ret u =>
        obtain ⟨v, H', os, bare, un, hok', r', q⟩ := h
        have q' : v = .bl true := q
        subst q'
        obtain rfl : u = Value.bool true := r'
        obtain ⟨more, hPn⟩ := un.tbls PT _ hP
        have objP : s'.heap.get? PT = some { cls := .none, data := .fields (#[] ++ more) } := hok' PT _ hPn
        have keep : ∀ b o, b ≠ PT → s₁.heap.get? b = some o → s'.heap.get? b = some o := fun b o hb e => by
          cases q : H b with
          | none => exact un.keep b o e q (by intro z; exact absurd (show b ∈ ([] : List Addr) from z) (by simp)) (by simp)
          | some u =>
            rcases hA b u q with ⟨z, _⟩ | ⟨_, _, ob, xs, z⟩
            · exact absurd z hb
            · subst z
              have z2 := un.frzs b ob _ q
              obtain ⟨e1, _⟩ := hok b _ q
              obtain ⟨e2, _⟩ := hok' b _ z2
              rw [e] at e1; cases e1
              exact e2
        refine ⟨rfl, ⟨fun b o e => ?_, fun b o e => ?_⟩, os, bare⟩
        · by_cases hb : b = PT
          · subst hb
            rw [hT] at e; cases e
            exact .inr (.inl ⟨hC, rfl, #[], more, rfl, objP⟩)
          · exact .inl (keep b o hb e)
        · by_cases hb : b = PT
          · rw [hb]; exact ⟨_, objP⟩
          · exact ⟨o, keep b o hb e⟩
  have okP : ∀ H : Hp, ObjOk P w H s₁.heap PT (.tbl #[]) := fun H => hT
  cases hk : K.lookup a with
  | some o =>
    have e := KX a o hk
    rw [ha] at e
    cases e
    refine core (fun b => if b = PT then some (.tbl #[]) else none) (fun b u z => ?_) (if_pos rfl) (.inr ⟨_, vs.toArray, _, hk, rfl, rfl, rfl, by rw [List.size_toArray, lenV]; exact hl, by simpa using rv⟩) (fun b u z => ?_)
    all_goals
      have z' : (if b = PT then some (HO.tbl #[]) else none) = some u := z
      by_cases hb : b = PT
      · rw [if_pos hb] at z'; cases z'
        first
          | exact .inl ⟨hb, rfl⟩
          | (subst hb; exact okP _)
      · rw [if_neg hb] at z'; cases z'
  | none =>
    refine core (fun b => if b = PT then some (.tbl #[]) else if b = a then some (.frz { cls := .type "list", data := .seq vs.toArray } (.lst (ns.map V.int))) else none) (fun b u z => ?_) (if_pos rfl)
      (.inl (.inr ⟨{ cls := .type "list", data := .seq vs.toArray }, by show (if a = PT then _ else if a = a then _ else _) = _; rw [if_neg npa.symm, if_pos rfl]⟩)) (fun b u z => ?_)
    all_goals
      have z' : (if b = PT then some (HO.tbl #[]) else if b = a then some (.frz { cls := .type "list", data := .seq vs.toArray } (.lst (ns.map V.int))) else none) = some u := z
      by_cases hb : b = PT
      · rw [if_pos hb] at z'; cases z'
        first
          | exact .inl ⟨hb, rfl⟩
          | (subst hb; exact okP _)
      · rw [if_neg hb] at z'
        by_cases hba : b = a
        · rw [if_pos hba] at z'; cases z'
          first
            | exact .inr ⟨hba, hk, _, _, rfl⟩
            | (subst hba; exact ⟨ha, by rw [List.length_map]; exact hl, vs, _, rv, ha⟩)
        · rw [if_neg hba] at z'; cases z'
theorem walk_T {l : PySem.W.OpenLaw} {n k : Nat} {q : Program} {loose : List Str} {XP : (Str → Option Value) → Heap → Prop} {YP : World → Heap → Prop} {d : DefRec} {K : Params → PySem.W.Frag} {CX : CXT} {sp : PySem.W.Frag → Addr → Sp} {x tn : Str}
    (hn : l.most = some n) (hn2 : n ≤ sizeLine) (hdf : d.params.defaults = []) (hr : Room k callerA) (hrec : ∃ dn, (recsOf q).find? (fun e => e.name == tn) = some dn)
    (hY : ∀ (w : World) (h : Heap), YP w h → (K w.params).In h)
    (F : ∀ (w : World) (mg : Str → Option Value) (fa : Addr) (h : Heap), (K w.params).In h → h.Ns mainGlobals mg → mg d.name = some (.ref fa) →
      ∃ (fd : FuncData) (c PT : Addr), PySem.W.tabIn (K w.params) tn = some (c, PT) ∧ PySem.W.noTabs (K w.params) = true ∧ (∀ (s : Shared) (u : Value), BindsTo s fd ⟨[u], []⟩ [(x, u)]) ∧
        ∀ base : Heap, (K w.params).In base → base.Ns mainGlobals mg → BmAt mg base → FnOk l.prog w (K w.params) mg base CX k fa fd [x] (sp (K w.params) PT))
    (hsp : ∀ (K : PySem.W.Frag) (PT : Addr) (H : Hp) (a : Addr) (ns : List Int), ns.length ≤ n → H PT = some (.tbl #[]) → SqL K H a (ns.map V.int) → sp K PT [.ref a] H (fun v _ => v = .bl true) fun _ _ _ => False)
    (hCX : ∀ (H : Hp) (s : Shared) (e : Value) (s' : Shared), CX [] H s (fun _ _ _ => False) e s' → False) :
    PySem.W.WalkO q loose XP YP l.row.toRowW d [] (fun f vs => PySem.call f vs) := by
  refine Att.attach_call hn hdf fun w s₀ s₁ mg mb fa o pm cd doc a vs ns G Y ho hd hcd hmg hobj hints hlen hg => ?_
  have KX := hY w _ Y
  obtain ⟨fd, c, PT, htab, hnt, hb, hF⟩ := F w mg fa _ KX G.T.g hmg
  obtain ⟨dn, hdn⟩ := hrec
  obtain ⟨C, hPT⟩ := PySem.W.tab_of G.T KX hdn htab
  exact law_callT KX G.T.g G.T.b G.T.builtins G.T.nolimit hg hobj hints (Nat.le_trans hlen hn2) hr hPT (C.tab hPT).isCodeTable hnt G.T.bmain hF hb (fun H hP hS => hsp _ PT H a ns hlen hP hS) fun H e s' => hCX H s₁ e s'
end L2
/-! ### a def whose code is known -/
namespace L2
open PySem PySem.Spec PyProof.Rows
structure FunC (K : PySem.W.Frag) (x qual : Str) (st : Stmt) (f : Addr) (fd : FuncData) (c : Addr) : Prop where
  ex : ∃ (oc : Value) (od : Option Addr) (kV doc pm : Value) (an : Option Addr) (ct : Value) (osl : Array (Option Value)),
    fd = PySem.W.fnOf x qual (defArgs st) (defBody st) (defScope st) .none kV doc pm an (.ref c) ct ∧ K.lookup f = some ⟨oc, od, .func fd, osl⟩ ∧ PySem.W.codeIn K (.ref c) qual = true
  kp : PySem.W.keepIn K (.ref f) = true
theorem FunC.fn {K : PySem.W.Frag} {x qual : Str} {st : Stmt} {f c : Addr} {fd : FuncData} (F : FunC K x qual st f fd c) : Fun K x qual st f fd := by
  obtain ⟨oc, od, kV, doc, pm, an, ct, osl, h⟩ := F.ex
  exact ⟨⟨oc, od, kV, doc, pm, an, .ref c, ct, osl, h⟩, F.kp⟩
theorem FunC.ok {P : Program} {w : World} {K : PySem.W.Frag} {mg : Str → Option Value} {base : Heap} {x qual : Str} {st : Stmt} {f c : Addr} {fd : FuncData} {N ps : List Str} {k : Nat} {sp : Sp} (F : FunC K x qual st f fd c) (S : FnScope N ps (defScope st)) (len : ∀ vs H Q E, sp vs H Q E → vs.length = ps.length)
    (hbody : ∀ (A : Around) (outer : List Env) (s : Shared) (H : Hp) (vs : List V) (Q : VK) (E : XK), Room k (A.deeper (envOfC qual (defScope st) s.heap.objs.size f (.ref c))) → sp vs H Q E →
      ∃ t, PSs (cxOf CX0 P w K mg base N qual (defScope st) f (.ref c) A outer s H E).nox (defBody st) t ∧ t { nx := fun _ H' => Q .non H', rt := Q } (start N vs) H) : FnOk P w K mg base CX0 (k + 1) f fd ps sp := by
  obtain ⟨oc, od, kV, doc, pm, an, ct, osl, rfl, lk, hcd⟩ := F.ex
  refine fn_of lk hcd S len fun A outer s H vs Q E hr hsp => ?_
  obtain ⟨t, h, q⟩ := hbody A outer s H vs Q E hr hsp
  exact ⟨t, h.nox, q⟩
theorem funC_mk {K : PySem.W.Frag} {x qual : Str} {st : Stmt} {f c : Addr} {oc : Value} {od an : Option Addr} {osl : Array (Option Value)} {kV doc pm ct : Value} (l : K.lookup f = some ⟨oc, od, .func (PySem.W.fnOf x qual (defArgs st) (defBody st) (defScope st) .none kV doc pm an (.ref c) ct), osl⟩)
    (hc : PySem.W.codeIn K (.ref c) qual = true) (k : PySem.W.keepIn K (.ref f) = true) : FunC K x qual st f (PySem.W.fnOf x qual (defArgs st) (defBody st) (defScope st) .none kV doc pm an (.ref c) ct) c := ⟨⟨oc, od, kV, doc, pm, an, ct, osl, rfl, l, hc⟩, k⟩

/-! ### dicts: put and drop, whatever the keys -/
section
variable {κ : Type} [DecidableEq κ]
theorem mem_putK {kvs : List (κ × V)} {k : κ} {v : V} {kv : κ × V} (h : kv ∈ putK kvs k v) : kv ∈ kvs ∨ kv = (k, v) := by
  unfold putK at h
  split at h
  · obtain ⟨q, hq, e⟩ := List.mem_map.mp h
    by_cases hk : q.1 = k
    · rw [if_pos hk] at e; rw [← e, hk]; exact .inr rfl
    · rw [if_neg hk] at e; rw [← e]; exact .inl hq
  · rcases List.mem_append.mp h with q | q
    · exact .inl q
    · exact .inr (List.mem_singleton.mp q)
theorem nd_put {kvs : List (κ × V)} {k : κ} {v : V} (h : (kvs.map (·.1)).Nodup) : ((putK kvs k v).map (·.1)).Nodup := by
  cases e : valV kvs k with
  | none => exact nd_putK v h e
  | some x =>
    have ha : (kvs.any fun kv => decide (kv.1 = k)) = true := by rw [valV_any, e]; rfl
    unfold putK
    rw [if_pos ha]
    have e3 : (kvs.map fun kv => if kv.1 = k then (kv.1, v) else kv).map (·.1) = kvs.map (·.1) := by
      rw [List.map_map]
      refine List.map_congr_left fun kv _ => ?_
      show (if kv.1 = k then (kv.1, v) else kv).1 = kv.1
      split <;> rfl
    rw [e3]; exact h
theorem valV_drop (k j : κ) : ∀ kvs : List (κ × V), valV (dropK kvs k) j = if j = k then none else valV kvs j
  | [] => by show (none : Option V) = _; split <;> rfl
  | p :: r => by
    have ih := valV_drop k j r
    by_cases e : p.1 = k
    · rw [dropK_pos e, ih]
      by_cases hj : j = k
      · rw [if_pos hj, if_pos hj]
      · rw [if_neg hj, if_neg hj, valV_neg fun z => hj (z.symm.trans e)]
    · rw [dropK_neg e]
      by_cases hj : p.1 = j
      · rw [valV_pos hj, valV_pos hj, if_neg fun z => e (hj.trans z)]
      · rw [valV_neg hj, valV_neg hj, ih]
end
def unkW : Key → Int
  | .inl i => i
  | .inr _ => 0
/-- the dict of those that wait -/
structure WD (n : Int) (kvs : List (Key × V)) (wt : Int → Option Int) : Prop where
  sh : ∀ kv ∈ kvs, ∃ p d, kv = (Sum.inl p, V.int d) ∧ 0 ≤ p ∧ p < n
  nd : (kvs.map (·.1)).Nodup
  at_ : ∀ p : Int, valV kvs (Sum.inl p) = (wt p).map V.int
def keysW (kvs : List (Key × V)) : List Int := kvs.map fun kv => unkW kv.1
theorem WD.keys {n : Int} {kvs : List (Key × V)} {wt : Int → Option Int} (h : WD n kvs wt) : kvs.map (·.1) = (keysW kvs).map Sum.inl := by
  unfold keysW
  rw [List.map_map]
  refine List.map_congr_left fun kv hkv => ?_
  obtain ⟨p, d, e, _⟩ := h.sh kv hkv
  rw [e]; rfl
theorem WD.nds {n : Int} {kvs : List (Key × V)} {wt : Int → Option Int} (h : WD n kvs wt) : (keysW kvs).Nodup := by
  have e := h.nd
  rw [h.keys, List.Nodup, List.pairwise_map] at e
  exact e.imp fun h e' => h (by rw [e'])
theorem WD.len {n : Int} {kvs : List (Key × V)} {wt : Int → Option Int} (h : WD n kvs wt) (h0 : 0 ≤ n) : (kvs.length : Int) ≤ n := by
  have := WM.nd_len (n := n.toNat) h.nds fun x hx => by
    obtain ⟨kv, hkv, e⟩ := List.mem_map.mp hx
    obtain ⟨p, d, e2, h1, h2⟩ := h.sh kv hkv
    have : x = p := by rw [← e, e2]; rfl
    omega
  unfold keysW at this
  rw [List.length_map] at this
  omega
theorem WD.mem {n : Int} {kvs : List (Key × V)} {wt : Int → Option Int} (h : WD n kvs wt) {p : Int} : p ∈ keysW kvs ↔ ∃ e, wt p = some e := by
  have e : p ∈ keysW kvs ↔ (Sum.inl p : Key) ∈ kvs.map (·.1) := by
    rw [h.keys]
    constructor
    · intro m; exact List.mem_map.mpr ⟨p, m, rfl⟩
    · intro m
      obtain ⟨q, hq, e⟩ := List.mem_map.mp m
      cases e; exact hq
  rw [e]
  have ha := h.at_ p
  constructor
  · intro m
    cases hw : wt p with
    | some d => exact ⟨d, rfl⟩
    | none => rw [hw] at ha; exact absurd m (valV_not ha)
  · rintro ⟨d, hw⟩
    rw [hw] at ha
    exact valV_in ha
theorem WD.one {n s : Int} (h0 : 0 ≤ s) (h1 : s < n) : WD n [(Sum.inl s, V.int 0)] (fun q => if q = s then some 0 else none) := by
  refine ⟨fun kv hkv => ?_, by simp, fun p => ?_⟩
  · rw [List.mem_singleton.mp hkv]; exact ⟨s, 0, rfl, h0, h1⟩
  · by_cases e : p = s
    · rw [if_pos e, e]; exact valV_pos rfl
    · rw [if_neg e]; exact (valV_neg fun z => e (Sum.inl.inj z).symm).trans valV_nil
theorem WD.put {n : Int} {kvs : List (Key × V)} {wt : Int → Option Int} (h : WD n kvs wt) {p d : Int} (h0 : 0 ≤ p) (h1 : p < n) : WD n (putK kvs (Sum.inl p) (.int d)) (fun q => if q = p then some d else wt q) := by
  refine ⟨fun kv hkv => ?_, nd_put h.nd, fun q => ?_⟩
  · rcases mem_putK hkv with z | z
    · exact h.sh kv z
    · exact ⟨p, d, z, h0, h1⟩
  · rw [valV_put]
    by_cases e : q = p
    · rw [if_pos e, if_pos (by rw [e])]; rfl
    · rw [if_neg e, if_neg fun z => e (Sum.inl.inj z)]; exact h.at_ q
theorem WD.drop {n : Int} {kvs : List (Key × V)} {wt : Int → Option Int} (h : WD n kvs wt) {p : Int} : WD n (dropK kvs (Sum.inl p)) (fun q => if q = p then none else wt q) := by
  refine ⟨fun kv hkv => h.sh kv (dropK_mem hkv), nd_dropK h.nd, fun q => ?_⟩
  rw [valV_drop]
  by_cases e : q = p
  · rw [if_pos e, if_pos (by rw [e])]; rfl
  · rw [if_neg e, if_neg fun z => e (Sum.inl.inj z)]; exact h.at_ q
def oV : Option Int → V
  | none => .non
  | some d => .int d
theorem ixN_in {n : Nat} {i : Int} (h0 : 0 ≤ i) (h1 : i < n) : ixN n i = some i.toNat := by
  unfold ixN
  rw [if_pos h0, if_pos h1]
theorem atI_in {α : Type} {xs : List α} {i : Int} {v : α} (h0 : 0 ≤ i) (h : xs[i.toNat]? = some v) : atI xs i = some v := by
  have := atI_nat h
  rwa [Int.toNat_of_nonneg h0] at this
theorem SmT.get {H H' : Hp} (k : SmT H H') {b : Addr} {o : HO} (e : H b = some o) (h : ∀ ps, o ≠ .tbl ps) : H' b = some o := by
  rcases k b o e with ⟨ps, z⟩ | z
  · exact absurd z (h ps)
  · exact z
theorem SmT.chg {H H' : Hp} {l : Addr} {o : HO} (k : SmT H H') (h : H l = none) : SmT H (upd H' l o) := fun b u e => by
  rcases k b u e with z | z
  · exact .inl z
  · right
    rw [upd_ne (ne_of_none e h)]; exact z
theorem TabAt.chg {H : Hp} {P l : Addr} {pos : Pos} {q : Str} {o : HO} {xs : List V} (T : TabAt H P pos q) (h : H l = some (.lst xs)) : TabAt (upd H l o) P pos q := by
  obtain ⟨ps, hps, _⟩ := id T
  refine T.keep (fun u hu => ?_) fun c φ hc => ?_
  · rw [upd_ne (ne_of hps h (by intro z; cases z))]; exact hu
  · rw [upd_ne (ne_of hc h (by intro z; cases z))]; exact hc
theorem SmT.none {H H' : Hp} {P l : Addr} {pos : Pos} {q : Str} (k : SmT H H') (T : TabAt H P pos q) (T' : TabAt H' P pos q) (h : H' l = Option.none) (ht : ∀ b ps, H b = some (.tbl ps) → b = P) : H l = Option.none := by
  cases e : H l with
  | none => rfl
  | some o =>
    rcases k l o e with ⟨ps, z⟩ | z
    · subst z
      have := ht l ps e
      subst this
      obtain ⟨qs, hq, _⟩ := T'
      rw [h] at hq; cases hq
    · rw [h] at z; cases z
end L2
namespace L2
open PySem PySem.Spec PyProof.Rows
theorem ints_all {xs ys : List Int} : ((List.range (min xs.length ys.length)).all (fun j => xs.getD j 0 == ys.getD j 0) && xs.length == ys.length) = decide (xs = ys) := by
  by_cases h : xs = ys
  · subst h; simp
  · rw [decide_eq_false h]
    by_cases hl : xs.length = ys.length
    · have : ∃ j, j < xs.length ∧ xs.getD j 0 ≠ ys.getD j 0 := by
        apply Classical.byContradiction
        intro hn
        refine h (List.ext_getElem hl fun j h1 h2 => ?_)
        apply Classical.byContradiction
        intro hne
        exact hn ⟨j, h1, by simpa [List.getD_eq_getElem?_getD, h1, h2] using hne⟩
      obtain ⟨j, hj, hne⟩ := this
      rw [Bool.and_eq_false_iff]
      left
      rw [List.all_eq_false]
      exact ⟨j, by rw [List.mem_range]; omega, by simpa using hne⟩
    · simp [hl]
section
variable {X : Cx}
def rEqT (K : PySem.W.Frag) (neg : Bool) : R2 := fun x y H Q => ∃ (a b : Addr) (xs ys : List Int), x = .ref a ∧ y = .ref b ∧ SqT K H a (xs.map V.int) ∧ SqT K H b (ys.map V.int) ∧ Q (.bl (if neg then !decide (xs = ys) else decide (xs = ys))) H
theorem eqAts {A : Around} {s : Shared} {us ws : List Value} {xs ys : List Int} (h1 : IntsAre us xs) (h2 : IntsAre ws ys) (j : Nat) (a : j < us.toArray.size) (b : j < ws.toArray.size) : SeqAt.EqAt A s us.toArray[j] ws.toArray[j] (xs.getD j 0 == ys.getD j 0) := by
  have l1 := h1.length
  have l2 := h2.length
  rw [List.size_toArray] at a b
  obtain ⟨n, hn⟩ : ∃ n, xs[j]? = some n := ⟨_, List.getElem?_eq_getElem (by omega)⟩
  obtain ⟨m, hm⟩ : ∃ m, ys[j]? = some m := ⟨_, List.getElem?_eq_getElem (by omega)⟩
  obtain ⟨t, ht⟩ := h1.get j n hn
  obtain ⟨u, hu⟩ := h2.get j m hm
  have e1 : us.toArray[j] = .int n t := by
    rw [List.getElem?_eq_getElem a] at ht
    simpa using Option.some.inj ht
  have e2 : ws.toArray[j] = .int m u := by
    rw [List.getElem?_eq_getElem b] at hu
    simpa using Option.some.inj hu
  rw [e1, e2, List.getD_eq_getElem?_getD, List.getD_eq_getElem?_getD, hn, hm]
  exact SeqAt.EqAt.int_int n t m u
theorem op_eqT (hu : X.A.units < cLine) : OpR X (compareOp .Eq) (rEqT X.K false) := by
  intro pins s σ H x y v u Q I rx ry h
  obtain ⟨a, b, xs, ys, rfl, rfl, ha, hb, q⟩ := h
  cases rx
  cases ry
  obtain ⟨its, r, pl, hz⟩ := I.tuple ha
  obtain ⟨its2, r2, pl2, hz2⟩ := I.tuple hb
  have h1 := intsAre_of r
  have h2 := intsAre_of r2
  refine SeqAt.eq_tupleAt (e := fun j => xs.getD j 0 == ys.getD j 0) pl pl2 hu (fun j a b => eqAts h1 h2 j a b) ⟨.bl _, H, I, rfl, ?_⟩
  rw [List.size_toArray, List.size_toArray, h1.length, h2.length, ints_all]
  exact q
theorem op_neT (hu : X.A.units < cLine) : OpR X (compareOp .NotEq) (rEqT X.K true) := by
  intro pins s σ H x y v u Q I rx ry h
  obtain ⟨a, b, xs, ys, rfl, rfl, ha, hb, q⟩ := h
  cases rx
  cases ry
  obtain ⟨its, r, pl, hz⟩ := I.tuple ha
  obtain ⟨its2, r2, pl2, hz2⟩ := I.tuple hb
  have h1 := intsAre_of r
  have h2 := intsAre_of r2
  refine PySem.EqBoolInt.of_rcne (SeqAt.RcNeAt.tuples (e := fun j => xs.getD j 0 == ys.getD j 0) pl pl2 hu (fun j a b => eqAts h1 h2 j a b)) ⟨.bl _, H, I, rfl, ?_⟩
  rw [List.size_toArray, List.size_toArray, h1.length, h2.length, ints_all]
  exact q
def rNeT (K : PySem.W.Frag) : R2 := fun x y H Q => ∃ (a b : Addr) (xs ys : List Int), x = .ref a ∧ y = .ref b ∧ SqT K H a (xs.map V.int) ∧ SqT K H b (ys.map V.int) ∧ Q (.bl (!decide (xs = ys))) H
def rEqT0 (K : PySem.W.Frag) : R2 := fun x y H Q => ∃ (a b : Addr) (xs ys : List Int), x = .ref a ∧ y = .ref b ∧ SqT K H a (xs.map V.int) ∧ SqT K H b (ys.map V.int) ∧ Q (.bl (decide (xs = ys))) H
theorem op_neT0 (hu : X.A.units < cLine) : OpR X (compareOp .NotEq) (rNeT X.K) := fun pins s σ H x y v u Q I rx ry h => op_neT hu pins s σ H x y v u Q I rx ry h
theorem op_eqT0 (hu : X.A.units < cLine) : OpR X (compareOp .Eq) (rEqT0 X.K) := fun pins s σ H x y v u Q I rx ry h => op_eqT hu pins s σ H x y v u Q I rx ry h
/-- two lists of ints -/
def rNeL (K : PySem.W.Frag) : R2 := fun x y H Q => ∃ (a b : Addr) (xs ys : List Int), x = .ref a ∧ y = .ref b ∧ SqL K H a (xs.map V.int) ∧ SqL K H b (ys.map V.int) ∧ Q (.bl (!decide (xs = ys))) H
theorem op_neL (hu : X.A.units < cLine) : OpR X (compareOp .NotEq) (rNeL X.K) := by
  intro pins s σ H x y v u Q I rx ry h
  obtain ⟨a, b, xs, ys, rfl, rfl, ha, hb, q⟩ := h
  cases rx
  cases ry
  obtain ⟨its, r, pl, hz⟩ := I.list ha
  obtain ⟨its2, r2, pl2, hz2⟩ := I.list hb
  have h1 := intsAre_of r
  have h2 := intsAre_of r2
  by_cases hl : its.length = its2.length
  · refine PySem.EqBoolInt.of_rcne (SeqAt.RcNeAt.lists (e := fun j => xs.getD j 0 == ys.getD j 0) pl.isList pl2.isList (by rw [List.size_toArray, List.size_toArray]; exact hl) hu (fun j a b => eqAts h1 h2 j a b)) ⟨.bl _, H, I, rfl, ?_⟩
    rw [List.size_toArray]
    have e := ints_all (xs := xs) (ys := ys)
    have l1 := h1.length
    have l2 := h2.length
    rw [show min xs.length ys.length = its.length by omega, show (xs.length == ys.length) = true by simpa using (by omega), Bool.and_true] at e
    rw [e]
    exact q
  · refine PySem.EqBoolInt.of_rcne (SeqAt.RcNeAt.lists_lengths pl.isList pl2.isList (by rw [List.size_toArray, List.size_toArray]; simpa using hl) hu) ⟨.bl _, H, I, rfl, ?_⟩
    have hne : xs ≠ ys := fun e => hl (by rw [h1.length, h2.length, e])
    rw [decide_eq_false hne] at q
    exact q
end
end L2
namespace L2
open PySem PySem.Spec PyProof.Rows
section
variable {X : Cx}
theorem call_sumL (hc : X.calm = true) : CallR X (.builtin "sum") (fun xs H Q => ∃ (p : Addr) (ns : List Int), xs = [.ref p] ∧ SqL X.K H p (ns.map V.int) ∧ Q (.int ns.sum) H) := by
  intro pins s σ H xs us Q I r h
  obtain ⟨p, ns, rfl, hq, q⟩ := h
  obtain ⟨u, rfl, rx⟩ := vals1 r
  cases rx
  obtain ⟨its, r', pl, hz⟩ := I.list hq
  have hi := intsAre_of r'
  have hl := pl.isList
  obtain ⟨zs, ez⟩ := hi.allInts.items
  have en := hi.numsOf
  rw [ez] at hl
  have es : preSum (numAt zs) zs.size = ns.sum := by
    rw [preSum_eq, List.take_of_length_le (by simp), ← en, show its = its.toArray.toList from rfl, ez, nums_intItems]
  refine sum_intListG (I.ok.hd hc) hl fun h' tk t' hk => ⟨.int ns.sum, H, I.kept hk, ⟨t', ?_⟩, q⟩
  rw [es]
end
end L2

/-! ### a comprehension one of whose names is taken along by a block within -/
namespace L2
open PySem PySem.Spec PyProof.Rows
def compEnv1 (scope : Scope) (yc : Str) (cl : List (Str × Addr)) (C : Addr) (env : Env) : Env :=
  { scope := relabel scope env, locals := C, globals := env.globals, cells := (yc, C + 1) :: cl, qual := env.qual, func := none, code := env.code, frame := env.frame, builtins := env.builtins }
theorem nfe_cell {M : Model} {A : Around} {E : Value → Shared → Prop} {s : Shared} {scope : Scope} {globals : Addr} {cl : List (Str × Addr)} {qual yc : Str} {env : Env} {Q : Env → Shared → Prop} (hcf : ∀ n acc, cellsFrom n scope.names acc = (yc, n) :: acc)
    (hQ : ∀ h' : Heap, h'.Ns s.heap.objs.size (fun _ => none) → (∀ b o, s.heap.get? b = some o → h'.get? b = some o) → h'.IsCell (s.heap.objs.size + 1) none →
      Q (newEnv scope s.heap.objs.size globals ((yc, s.heap.objs.size + 1) :: cl) qual none .none (some env) builtinsNs) { s with heap := h', toks := s.toks }) :
    wpAny M A (newFunctionEnv scope globals cl [] qual none .none (some env)) Q E s := by
  simp only [newFunctionEnv, Option.isSome_some, if_true]
  refine wpAny_bind (wpAny_alloc ?_)
  refine wpAny_bind (wpAny_layCells _ (fun name kind cells => by cases hkc : kind == NameKind.cell <;> simp [hkc]) _ _ _ _ ?_)
  have ok := cellsFrom_ok scope.names (s.heap.push { cls := .type "dict", data := .dict #[] }) (s.heap.objs.size + 1) [] ⟨fun _ _ hm => (nomatch hm), List.Pairwise.nil⟩ (by rw [Heap.size_push]; exact Nat.le_refl _)
  rw [Heap.size_push] at ok
  rw [show ({ s with heap := s.heap.push { cls := .type "dict", data := .dict #[] } } : Shared).heap.objs.size = s.heap.objs.size + 1 from Heap.size_push ..]
  rw [hcf] at ok ⊢
  refine wpAny_bind ?_
  rw [List.forIn_nil]
  refine wpAny_pure (wpAny_pure ?_)
  exact hQ _ ((Heap.Ns.new s.heap (.type "dict")).keeps (pushCells_keeps _ _)) (fun b o e => pushCells_keeps _ _ b o (Heap.get?_push_of_some _ e)) (ok.empty _ _ List.mem_cons_self).1
def cxComp1 (X : Cx) (pl : List (Addr × Obj)) (N' : List Str) (scope : Scope) (yc : Str) (fp : List Addr) (s3 : Shared) (H3 : Hp) : Cx where
  prog := X.prog
  w := X.w
  K := X.K
  mg := X.mg
  base := X.base
  A := X.A
  N := N'
  s₀ := s3
  H₀ := H3
  env := compEnv1 scope yc (clOf X.env.cells scope.names []) s3.heap.objs.size X.env
  outer := X.stack
  stack := X.stack
  ex := fp
  fn := fun x => x == yc
  calm := X.calm
  pn := pl
  xe := fun _ _ => False
/-- what the block's text must be: its one cell is yc -/
structure CompSc1 (X : Cx) (scope : Scope) (yc : Str) : Prop where
  kind : scope.kind = .function
  cf : ∀ n acc, cellsFrom n scope.names acc = (yc, n) :: acc
  own : scope.names.lookup yc = some .cell
  one : ∀ y ∈ scope.names, y.2 = .cell → y.1 = yc
  names : ∀ y ∈ scope.names, y.2 = .local → scope.names.lookup y.1 = some .local
  free : ∀ y ∈ scope.names, y.2 = .free → X.env.kindOf y.1 = some .cell
section
variable {X : Cx} {pins : List (Addr × Obj)} {σ : St} {H3 : Hp} {s3 : Shared} {scope : Scope} {fp : List Addr} {N' own cn : List Str} {ci : List Nat} {cv : List V} {yc : Str}
theorem look1 {x : Str} {c n : Addr} {cl : List (Str × Addr)} (h : ((yc, n) :: cl).lookup x = some c) : (x = yc ∧ c = n) ∨ (x ≠ yc ∧ cl.lookup x = some c) := by
  rw [List.lookup_cons] at h
  cases hx : x == yc with
  | true => rw [hx] at h; cases h; exact .inl ⟨by simpa using hx, rfl⟩
  | false => rw [hx] at h; exact .inr ⟨by simpa using hx, h⟩
theorem look1_ne {x : Str} {n : Addr} {cl : List (Str × Addr)} (h : x ≠ yc) : ((yc, n) :: cl).lookup x = cl.lookup x := by
  rw [List.lookup_cons, show (x == yc) = false by simpa using h]
theorem comp1_has (ok : X.Ok) (S : CompSc1 X scope yc) {x : Str} {n : Addr} (h : (relabel scope X.env).names.lookup x = some .cell ∨ (relabel scope X.env).names.lookup x = some .free) :
    ∃ c, ((yc, n) :: clOf X.env.cells scope.names []).lookup x = some c := by
  by_cases hxy : x = yc
  · subst hxy
    exact ⟨n, by rw [List.lookup_cons, beq_self_eq_true]⟩
  rw [look1_ne hxy]
  have e : (relabel scope X.env).names.lookup x = (scope.names.lookup x).map fun k => if (k == NameKind.free && X.env.scope.kind == .function && X.env.kindOf x == some .cell) = true then NameKind.cell else k := lookup_relabel scope.names
  have hf : scope.names.lookup x = some .free := by
    cases q : scope.names.lookup x with
    | none => rw [e, q] at h; simp at h
    | some k =>
      by_cases hk : k = .free
      · rw [hk]
      · have hb : (k == NameKind.free) = false := by simpa using hk
        rw [e, q] at h
        simp only [Option.map_some, hb, Bool.false_and, Bool.false_eq_true, if_false, Option.some.injEq] at h
        rcases h with h | h
        · exact absurd (S.one _ (PySem.mem_of_lookup q) h) hxy
        · exact absurd h hk
  exact clOf_has (ok.has x (.inl (S.free _ (PySem.mem_of_lookup hf) rfl))) scope.names [] (PySem.mem_of_lookup hf)
theorem comp1_cl (I : Inv X pins σ H3 s3) {x : Str} {c n : Addr} (h : ((yc, n) :: clOf X.env.cells scope.names []).lookup x = some c) : (x = yc ∧ c = n) ∨ (x ≠ yc ∧ X.env.cells.lookup x = some c ∧ c < s3.heap.objs.size) := by
  rcases look1 h with z | ⟨z, e⟩
  · exact .inl z
  · have e' := comp_cl e
    obtain ⟨v, o, ho, _⟩ := I.cell x c e'
    exact .inr ⟨z, e', Heap.lt_size ho⟩
theorem comp1_ok (I : Inv X pins σ H3 s3) (S : CompSc1 X scope yc) (f : ∀ b ∈ fp, FpOk X pins H3 b) (fz : ∀ b ∈ fp, b < s3.heap.objs.size) : (cxComp1 X (X.pn ++ pins) N' scope yc fp s3 H3).Ok where
  mod := I.ok.mod
  kind := S.kind
  glob := I.ok.glob
  blt := I.ok.blt
  above := Nat.le_refl _
  inj := fun x y c h1 h2 => by
    rcases comp1_cl I h1 with ⟨a, b⟩ | ⟨a, b, d⟩ <;> rcases comp1_cl I h2 with ⟨a', b'⟩ | ⟨a', b', d'⟩
    · rw [a, a']
    · rw [b] at d'; exact absurd d' (Nat.not_lt.mpr (Nat.le_succ _))
    · rw [b'] at d; exact absurd d (Nat.not_lt.mpr (Nat.le_succ _))
    · exact I.ok.inj x y c b b'
  has := fun x h => comp1_has I.ok S h
  cab := fun x c h e => by
    have hx : x = yc := by simpa using (show (x == yc) = true from h)
    rcases comp1_cl I e with ⟨_, b⟩ | ⟨a, _⟩
    · rw [b]; exact Nat.le_succ _
    · exact absurd hx a
  hd := I.ok.hd
  frames := I.ok.frames
  stk := .inl rfl
  exf := fun b hb => ⟨Nat.ne_of_lt (fz b hb), fun x c h => by
    have := fz b hb
    rcases comp1_cl I h with ⟨_, d⟩ | ⟨_, d, _⟩
    · intro z
      rw [← z, d] at this; exact absurd this (Nat.not_lt.mpr (Nat.le_succ _))
    · exact (f b hb).2.2.2.2.1 x c d⟩
  bs := I.bs
  bsz := Nat.le_trans I.ok.bsz I.sz
  noex := fun b o e hb => by
    rcases (f b hb).2.2.2.1 with z | z
    · exact I.ok.noex b o e z
    · exact absurd (Nat.lt_of_lt_of_le (Heap.lt_size e) (Nat.le_trans I.ok.bsz z)) (Nat.lt_irrefl _)
  exfs := fun b hb z => by
    rcases List.mem_cons.mp (I.stkSub b z) with q | q
    · exact (f b hb).2.1 q
    · exact (f b hb).2.2.1 q
  funs := I.stack
  frf := I.stkFree

theorem comp1_inv {h1 : Heap} {t : Nat} (I : Inv X pins σ H3 s3) (S : CompSc1 X scope yc) (f : ∀ b ∈ fp, FpOk X pins H3 b) (fz : ∀ b ∈ fp, b < s3.heap.objs.size)
    (hN : N' = own ++ cn) (hc : CapOk X scope cn ci) (hv : ci.map (fun j => σ[j]?) = cv.map fun v => some (some v)) (hl : cn.length = ci.length)
    (hns : h1.Ns s3.heap.objs.size (fun _ => none)) (hk : ∀ b o, s3.heap.get? b = some o → h1.get? b = some o) (hcl : h1.IsCell (s3.heap.objs.size + 1) none) :
    Inv (cxComp1 X (X.pn ++ pins) N' scope yc fp s3 H3) [] (List.replicate own.length none ++ cv.map some) H3 { s3 with heap := h1, toks := t } := by
  have lenv : cv.length = ci.length := by
    have := congrArg List.length hv
    simpa using this.symm
  refine ⟨comp1_ok I S f fz, rfl, I.bare, Un.kept hk, ⟨_, hns, fun i x v e1 e2 e3 => ?_⟩, fun x c e => ?_, I.hok.fresh (Nat.le_refl _), fun x c e => ?_, fun p hp => ?_, I.hok.kept hk, ?_⟩
  · -- a captured name
    have hi : own.length ≤ i := by
      by_cases hi : own.length ≤ i
      · exact hi
      · rw [List.getElem?_append_left (by simpa using hi), List.getElem?_replicate] at e2
        split at e2 <;> cases e2
    rw [List.getElem?_append_right (by simpa using hi), List.length_replicate, List.getElem?_map] at e2
    have e1' : (own ++ cn)[i]? = some x := by rw [← hN]; exact e1
    rw [List.getElem?_append_right hi] at e1'
    obtain ⟨j, hj, hNj, hkx, hfr⟩ := hc.get e1'
    have hcv : cv[i - own.length]? = some v := by
      cases q : cv[i - own.length]? with
      | none => rw [q] at e2; cases e2
      | some v' => rw [q] at e2; cases e2; rfl
    have hσ : σ[j]? = some (some v) := by
      have := congrArg (fun l : List (Option (Option V)) => l[i - own.length]?) hv
      simp only [List.getElem?_map, hj, hcv, Option.map_some, Option.some.injEq] at this
      exact this
    obtain ⟨m, _, hl'⟩ := I.loc
    obtain ⟨u, r, q⟩ := hl' j x v hNj hσ (.inr (.inl hkx))
    have hkd : (relabel scope X.env).names.lookup x = some .cell ∨ (relabel scope X.env).names.lookup x = some .free := by
      have e : (relabel scope X.env).names.lookup x = (scope.names.lookup x).map fun k => if (k == NameKind.free && X.env.scope.kind == .function && X.env.kindOf x == some .cell) = true then NameKind.cell else k := lookup_relabel scope.names
      rw [e, hfr, Option.map_some]
      by_cases cc : (NameKind.free == NameKind.free && X.env.scope.kind == .function && X.env.kindOf x == some .cell) = true
      · rw [if_pos cc]; exact .inl rfl
      · rw [if_neg cc]; exact .inr rfl
    obtain ⟨c', hc'⟩ := comp1_has (n := s3.heap.objs.size + 1) I.ok S hkd
    have hxy : x ≠ yc := fun z => by rw [z, S.own] at hfr; cases hfr
    refine ⟨u, r, .inr ⟨hkd, c', hc', ?_⟩⟩
    rcases q with ⟨z, _⟩ | ⟨_, c, hcc, o, ho, hd⟩
    · rw [hkx] at z; cases z
    · have e : c = c' := Option.some.inj (hcc.symm.trans (comp_cl ((look1_ne hxy).symm.trans hc')))
      subst e
      exact ⟨o, hk c o ho, hd⟩
  · rcases comp1_cl I e with ⟨_, d⟩ | ⟨_, d, _⟩
    · rw [d]; exact ⟨_, hcl⟩
    · obtain ⟨v, o, ho, hd⟩ := I.cell x c d
      exact ⟨v, o, hk c o ho, hd⟩
  · rcases comp1_cl I e with ⟨_, d⟩ | ⟨_, d, _⟩
    · rw [d]; exact I.hok.fresh (Nat.le_succ _)
    · exact I.freeC x c d
  · have hp' : p ∈ X.pn ++ pins := by rw [List.append_nil] at hp; exact hp
    obtain ⟨e, n, ne, nf, d⟩ := I.pin p hp'
    refine ⟨hk _ _ e, n, Nat.ne_of_lt (Heap.lt_size e), fun z => ?_, d⟩
    rcases List.mem_cons.mp (I.stkSub p.1 z) with q | q
    · exact ne q
    · exact nf q
  · show (List.replicate own.length none ++ cv.map some).length = N'.length
    rw [hN, List.length_append, List.length_append, List.length_replicate, List.length_map, lenv, hl]

theorem comp1_core {elt target iter : Expr} {ifs : List Expr} {pos cpos : Pos} {wi : TI} {g : TG} {ti : TT} {te : TE} {use : Option (Value → Sem Unit)} {Q0 : Value → Shared → Prop} {s : Shared} {H : Hp} {Q : VK} (hcalm : X.calm = true) (S : CompSc1 X scope yc) (hc : CapOk X scope cn ci) (hl : cn.length = ci.length)
    (hi : PI X target iter wi) (hg : ∀ pl fp s3 H3, PG (cxComp1 X pl (own ++ cn) scope yc fp s3 H3) target g) (ht : ∀ pl fp s3 H3, PTs (cxComp1 X pl (own ++ cn) scope yc fp s3 H3) ifs ti)
    (he : ∀ pl fp s3 H3, PE (cxComp1 X pl (own ++ cn) scope yc fp s3 H3) elt te) (hs : ∀ x, foldedSetIterable iter X.env x = pure x) (I : Inv X pins σ H s) (h : tComp own.length ci wi g ti te σ H Q)
    (fin : ∀ (D C : Addr) (H5 : Hp) (s6 : Shared) (m6 : Str → Option Value), Inv X pins σ H5 s6 → s6.heap.Ns C m6 → H5 C = none → C ≠ X.env.locals → X.s₀.heap.objs.size ≤ C → (∀ x c, X.env.cells.lookup x = some c → c ≠ C) →
      (∀ p ∈ X.pn ++ pins, p.1 ≠ C) → Q (.ref D) H5 → compPost (model X.prog X.w) X.A X.xe use Q0 (.ref D) C (.ok .next) s6) :
    wpAny (model X.prog X.w) X.A (comprehension (.ListComp elt [⟨target, iter, ifs, 0⟩] scope pos) scope X.env cpos (newList []) false (eval iter X.env) use) Q0 X.xe s := by
  have hcl : closureFor scope X.env = pure (clOf X.env.cells scope.names []) := closureFor_eq fun y hy hf => I.ok.has y.1 (.inl (S.free y hy hf))
  refine wpAny_comprehension_free (use := use) rfl hs hcl S.kind S.names ?_
  refine thn (hi pins s σ H _ I h) fun v s1 h1 => thn h1 fun itv s2 h2 => ?_
  obtain ⟨it, fp, tn, J, H2, e, I2, T, st2, f2, cv, hv, hD⟩ := h2
  subst e
  have lenv : cv.length = ci.length := by
    have := congrArg List.length hv
    simpa using this.symm
  -- the new list, the block's frame
  have I3 := I2.lnew (ys := []) (its := []) (t' := s2.toks) .nil (Nat.zero_le _)
  obtain ⟨W, ⟨m0, w0⟩, turn⟩ := hD s2.heap.objs.size I2.fresh
  have fz : ∀ b ∈ fp, b < s2.heap.objs.size := fun b hb => by
    obtain ⟨o, ho, _⟩ := T.obj _ _ st2 b hb
    exact Heap.lt_size ho
  refine wpAny_newObj_type ?_
  refine nfe_cell S.cf (fun h4 hns4 hk4 hc4 => ?_)
  generalize hs3 : ({ s2 with heap := s2.heap.push { cls := .type "list", dict := none, data := .seq ([] : List Value).toArray } } : Shared) = s3 at hns4 hk4 hc4 ⊢
  have I3' : Inv X pins σ (upd H2 s2.heap.objs.size (.lst [])) s3 := by rw [← hs3]; exact I3
  have hsz3 : s3.heap.objs.size = s2.heap.objs.size + 1 := by rw [← hs3]; exact Heap.size_push ..
  have k23 : ∀ b o, s2.heap.get? b = some o → s3.heap.get? b = some o := fun b o e => by rw [← hs3]; exact Heap.get?_push_of_some _ e
  have k34 : ∀ b o, s3.heap.get? b = some o → h4.get? b = some o := hk4
  have nD : ∀ b ∈ fp, b ≠ s2.heap.objs.size := fun b hb => Nat.ne_of_lt (fz b hb)
  have f3 : ∀ b ∈ fp, FpOk X pins (upd H2 s2.heap.objs.size (.lst [])) b := fun b hb => ⟨by rw [upd_ne (nD b hb)]; exact (f2 b hb).1, (f2 b hb).2⟩
  have fz3 : ∀ b ∈ fp, b < s3.heap.objs.size := fun b hb => by rw [hsz3]; exact Nat.lt_succ_of_lt (fz b hb)
  have I4 : Inv (cxComp1 X (X.pn ++ pins) (own ++ cn) scope yc fp s3 (upd H2 s2.heap.objs.size (.lst []))) [] (List.replicate own.length none ++ cv.map some) (upd H2 s2.heap.objs.size (.lst [])) { s3 with heap := h4, toks := s3.toks } :=
    comp1_inv I3' S f3 fz3 rfl hc hv hl hns4 k34 hc4
  have st4 : tn 0 h4 := T.keep _ _ _ st2 fun b hb o e => k34 b o (k23 b o e)
  generalize hX : cxComp1 X (X.pn ++ pins) (own ++ cn) scope yc fp s3 (upd H2 s2.heap.objs.size (.lst [])) = X' at I4
  have hg' : PG X' target g := by rw [← hX]; exact hg _ _ _ _
  have ht' : PTs X' ifs ti := by rw [← hX]; exact ht _ _ _ _
  have he' : PE X' elt te := by rw [← hX]; exact he _ _ _ _
  have ePr : X'.prog = X.prog := by rw [← hX]; rfl
  have eW : X'.w = X.w := by rw [← hX]; rfl
  have eK : X'.K = X.K := by rw [← hX]; rfl
  have eA : X'.A = X.A := by rw [← hX]; rfl
  have eE : X'.env = compEnv1 scope yc (clOf X.env.cells scope.names []) s3.heap.objs.size X.env := by rw [← hX]; rfl
  have eXe : X'.xe = fun _ _ => False := by rw [← hX]; rfl
  have eC : X'.calm = true := by rw [← hX]; exact hcalm
  have eex : X'.ex = fp := by rw [← hX]; rfl
  have epn : X'.pn = X.pn ++ pins := by rw [← hX]; rfl
  have es0 : X'.s₀ = s3 := by rw [← hX]; rfl
  have eH0 : X'.H₀ = upd H2 s2.heap.objs.size (.lst []) := by rw [← hX]; rfl
  have efs : X'.fs = frs X.stack := by rw [← hX]; rfl
  have ok' := I4.ok
  have stat : ∀ {H' : Hp}, (∀ b ∈ fp, H' b = none) → ∀ b ∈ fp, FpOk X' [] H' b := fun hn b hb => by
    have hb' : b ∈ X'.ex := by rw [eex]; exact hb
    refine ⟨hn b hb, (ok'.exf b hb').1, ok'.exfs b hb', .inl hb', (ok'.exf b hb').2, fun p hp => ?_⟩
    rw [epn, List.append_nil] at hp
    exact (f2 b hb).2.2.2.2.2 p hp
  have wk : ∀ (σ2 : St), (σ2.length = own.length + cv.length ∧ σ2.drop own.length = cv.map some) → ∀ {pl : List (Addr × Obj)} {H' : Hp} {s' : Shared}, Inv X' pl σ2 H' s' → Inv X' pl (List.replicate own.length none ++ cv.map some) H' s' := fun σ2 hq pl H' s' I' => by
    refine I'.weak (by rw [hq.1, List.length_append, List.length_replicate, List.length_map]) fun i v hi => ?_
    by_cases hlt : i < own.length
    · rw [List.getElem?_append_left (by simpa using hlt), List.getElem?_replicate] at hi
      split at hi <;> cases hi
    · rw [List.getElem?_append_right (by simpa using hlt), List.length_replicate, ← hq.2, List.getElem?_drop] at hi
      rw [show own.length + (i - own.length) = i by omega] at hi
      exact hi
  -- the loop
  have loop : codeAny (model X.prog X.w) X.A (.compLoop (.ListComp elt [⟨target, iter, ifs, 0⟩] scope pos) 0 (.ref it) (.ref s2.heap.objs.size) (compEnv1 scope yc (clOf X.env.cells scope.names []) s3.heap.objs.size X.env))
      (compPost (model X.prog X.w) X.A X.xe use Q0 (.ref s2.heap.objs.size) s3.heap.objs.size) { s3 with heap := h4, toks := s3.toks } := by
    refine compLoop_gen (fun n s' => ∃ i ys H', Inv X' [] (List.replicate own.length none ++ cv.map some) H' s' ∧ tn i s'.heap ∧ (∀ b ∈ fp, H' b = none) ∧ W i n ys H') ?_ m0
      ⟨0, [], _, I4, st4, fun b hb => (f3 b hb).1, w0⟩
    rintro n s5 ⟨i, ys, H5, I5, st5, fr5, w5⟩
    rcases turn i n ys H5 w5 with ⟨stop, qn⟩ | ⟨go, hsz, N, hN, step⟩
    · have d := T.done X' ePr eW eK eC i [] s5 _ H5 (fun _ _ => False) I5 (stat fr5) st5 stop
      rw [eA] at d
      refine thn d fun r s6 ⟨hr, I6⟩ => ?_
      subst hr
      -- back to the frame outside
      obtain ⟨m6, hn6, _⟩ := I6.loc
      rw [eE] at hn6
      have hn6' : s6.heap.Ns s3.heap.objs.size m6 := hn6
      have un6 : Un (frs X.stack) fp (upd H2 s2.heap.objs.size (.lst [])) H5 s3.heap s6.heap := by
        have b6 := I6.base
        rw [efs, eex, eH0, es0] at b6
        exact b6
      have os6 : s6.os = s3.os := by have o6 := I6.os; rw [es0] at o6; exact o6
      have hok6 : HOk X.prog X.w H5 s6.heap := by have o6 := I6.hok; rw [ePr, eW] at o6; exact o6
      have I7 : Inv X pins σ H5 s6 := I3'.call' (ch := fp) os6 un6 hok6 I6.bare fun b hb => ⟨(f2 b hb).2.2.2.1, (f2 b hb).2.1, (f2 b hb).2.2.2.2.1, (f2 b hb).2.2.2.2.2⟩
      have fr6 : H5 s3.heap.objs.size = none := by
        have q := I6.free
        rw [eE] at q
        exact q
      refine fin s2.heap.objs.size s3.heap.objs.size H5 s6 m6 I7 hn6' fr6 (Nat.ne_of_gt I3'.lt) I3'.sz (fun x c e => ?_) (fun p hp => ?_) qn
      · obtain ⟨_, o, ho, _⟩ := I3'.cell x c e
        exact Nat.ne_of_lt (Heap.lt_size ho)
      · exact Nat.ne_of_lt (Heap.lt_size (I3'.pin p hp).1)
    · have d := T.item X' ePr eW eK eC i [] s5 _ H5 (fun _ _ => False) I5 (stat fr5) st5 go
      rw [eA] at d
      refine thn d fun r s6 ⟨u, hr, h6⟩ => ?_
      subst hr
      refine thn h6 fun _ s7 ⟨x, H7, I7, r7, y7, st7, fr7⟩ => ?_
      have I7' := I7.pinned (stat fr7) (T.obj _ _ st7)
      have g7 := hg' _ s7 _ H7 x u _ I7' r7 (step x H7 y7)
      rw [ePr, eW, eA, eE, eXe] at g7
      refine thn g7 fun _ s8 ⟨σ8, H8, I8, q8, ti8⟩ => ?_
      have t8 := ht' _ s8 σ8 H8 _ I8 ti8
      rw [ePr, eW, eA, eE, eXe] at t8
      refine thn t8 fun ok s9 ⟨H9, I9, q9⟩ => ?_
      have again : ∀ {ys' : List V} {H' : Hp} {s' : Shared}, Inv X' ([] ++ pinsAt fp s7.heap) σ8 H' s' → N ys' H' →
          ∃ m, m < n ∧ ∃ i ys H', Inv X' [] (List.replicate own.length none ++ cv.map some) H' s' ∧ tn i s'.heap ∧ (∀ b ∈ fp, H' b = none) ∧ W i m ys H' := fun {ys' H' s'} I' n' => by
        obtain ⟨m', hm, w'⟩ := hN ys' H' n'
        refine ⟨m', hm, i + 1, ys', H', (wk σ8 q8 I').unpinned, T.keep _ _ _ st7 fun b hb o e => (I'.pin (b, o) (List.mem_append_right _ (List.mem_append_right _ (mem_pinsAt hb e)))).1, fun b hb => ?_, w'⟩
        obtain ⟨o, e, _⟩ := T.obj _ _ st7 b hb
        exact (I'.pin (b, o) (List.mem_append_right _ (List.mem_append_right _ (mem_pinsAt hb e)))).2.1
      cases ok with
      | false => exact again I9 q9
      | true =>
        have e9 := he' _ s9 σ8 H9 _ I9 q9
        rw [ePr, eW, eA, eE, eXe] at e9
        refine thn e9 fun u10 s10 ⟨y, H10, I10, r10, hD10, n10⟩ => ?_
        have a10 := mt_append (X := X') _ s10 σ8 H10 (.ref s2.heap.objs.size) [y] (.ref s2.heap.objs.size) [u10] (fun _ H' => N (ys ++ [y]) H') I10 rfl (.cons r10 .nil) ⟨_, _, _, rfl, rfl, hD10, hsz, n10⟩
        rw [ePr, eW, eA, eXe] at a10
        exact thn a10 fun _ s11 ⟨_, H11, I11, _, n11⟩ => again I11 n11
  exact codeAny_compStart_list loop (T.self X.A 0 _ _ _ st4 loop)
theorem pe_comp1 {elt target iter : Expr} {ifs : List Expr} {pos : Pos} {wi : TI} {g : TG} {ti : TT} {te : TE} (hcalm : X.calm = true) (S : CompSc1 X scope yc) (hc : CapOk X scope cn ci) (hl : cn.length = ci.length)
    (hi : PI X target iter wi) (hg : ∀ pl fp s3 H3, PG (cxComp1 X pl (own ++ cn) scope yc fp s3 H3) target g) (ht : ∀ pl fp s3 H3, PTs (cxComp1 X pl (own ++ cn) scope yc fp s3 H3) ifs ti)
    (he : ∀ pl fp s3 H3, PE (cxComp1 X pl (own ++ cn) scope yc fp s3 H3) elt te) (hs : ∀ x, foldedSetIterable iter X.env x = pure x := by intro _; rfl) :
    PE X (.ListComp elt [⟨target, iter, ifs, 0⟩] scope pos) (tComp own.length ci wi g ti te) := by
  intro pins s σ H Q I h
  rw [eval_ListComp]
  exact comp1_core hcalm S hc hl hi hg ht he hs I h fun D C H5 s6 m6 I7 hn fr nL ge nC nP q => ⟨m6, hn, fun h' hs' => ⟨.ref D, H5, I7.turned (t' := s6.toks) (it := C) (fun b o hb e => hs'.extBut b o hb e) fr nL (.inr ge) nC nP, rfl, q⟩⟩
theorem ps_setC1 {elt target iter : Expr} {ifs : List Expr} {pos pos' cpos : Pos} {wi : TI} {g : TG} {ti : TT} {te : TE} {i : Nat} {x : Str} (hN : X.N.Nodup) (hix : X.N[i]? = some x) (hx : Loc X.env.scope x) (hcalm : X.calm = true) (S : CompSc1 X scope yc) (hc : CapOk X scope cn ci) (hl : cn.length = ci.length)
    (hi : PI X target iter wi) (hg : ∀ pl fp s3 H3, PG (cxComp1 X pl (own ++ cn) scope yc fp s3 H3) target g) (ht : ∀ pl fp s3 H3, PTs (cxComp1 X pl (own ++ cn) scope yc fp s3 H3) ifs ti)
    (he : ∀ pl fp s3 H3, PE (cxComp1 X pl (own ++ cn) scope yc fp s3 H3) elt te) (hs : ∀ x, foldedSetIterable iter X.env x = pure x := by intro _; rfl)
    (hsw : swapsWith (.ListComp elt [⟨target, iter, ifs, 0⟩] scope cpos) (some (.Name x pos')) pos.line X.env = pure true := by rfl)
    (hf : X.fn x = true ∨ X.env.scope.names.lookup x = some .local := by first | exact .inl rfl | exact .inr rfl | assumption) :
    PS X (.Assign [.Name x pos'] (.ListComp elt [⟨target, iter, ifs, 0⟩] scope cpos) pos) (tAsg (tComp own.length ci wi g ti te) (gName i)) := by
  intro pins s σ H D I h
  rw [exec_Assign_Name_used _ _ _ _ hsw]
  refine wpAny_bind (wpAny_standAt (wpAny_bind ?_))
  show wpAny _ X.A (do let _ ← comprehension (.ListComp elt [⟨target, iter, ifs, 0⟩] scope cpos) scope X.env _ (newList []) false (eval iter X.env) (some (assign (.Name x pos') X.env))) _ _ s
  refine wpAny_bind (wpAny_mono (comp1_core (use := some (assign (.Name x pos') X.env)) (Q0 := fun _ s' => SP X pins D .next s') hcalm S hc hl hi hg ht he hs I h (fun D' C H5 s6 m6 I7 hn fr nL ge nC nP q => ?_)) (fun _ s' hq => wpAny_pure (wpAny_pure hq)) fun _ _ e => e)
  obtain ⟨oC, es, ep, hoC, hd, r1⟩ := hn
  have nf : C ∉ X.fs := fun hb => by
    obtain ⟨_, o, ho, _⟩ := I7.ok.funs.mem hb
    exact absurd (Nat.lt_of_lt_of_le (Heap.lt_size ho) ge) (Nat.lt_irrefl _)
  have I7' : Inv X (pins ++ [(C, oC)]) σ H5 s6 := I7.pins_of fun p hp => by
    rcases List.mem_append.mp hp with z | z
    · exact I7.pin p (List.mem_append_right _ z)
    · rw [List.mem_singleton.mp z]
      exact ⟨hoC, fr, nL, nf, fun v e => by rw [hd] at e; cases e⟩
  show wpAny _ X.A (assign (.Name x pos') X.env (.ref D')) _ _ s6
  refine wpAny_assign_Name (store_ok I7' hN hix hx (show RelV (.ref D') (.ref D') from rfl) (fun s' I' => ?_) hf)
  have hC' := (I'.pin (C, oC) (List.mem_append_right _ (List.mem_append_right _ (List.mem_singleton.mpr rfl)))).1
  refine ⟨m6, ⟨oC, es, ep, hC', hd, r1⟩, fun h' hs' => ⟨_, H5, ?_, q⟩⟩
  have I2 : Inv X pins (σ.set i (some (.ref D'))) H5 s' := I'.pins_of fun p hp => I'.pin p (List.mem_append_right _ (List.mem_append_left _ hp))
  exact I2.turned (t' := s'.toks) (it := C) (fun b o hb e => hs'.extBut b o hb e) fr nL (.inr ge) nC nP
end
def cscOk1 (outer inner : Scope) (yc : Str) : Bool := inner.names.all fun y => (y.2 != .cell || y.1 == yc) && (y.2 != .local || inner.names.lookup y.1 == some .local) && (y.2 != .free || outer.names.lookup y.1 == some .cell)
theorem csc1 {X : Cx} {scope : Scope} {yc : Str} (hk : scope.kind = .function) (hcf : ∀ n acc, cellsFrom n scope.names acc = (yc, n) :: acc) (ho : scope.names.lookup yc = some .cell) (h : cscOk1 X.env.scope scope yc = true) : CompSc1 X scope yc := by
  have a := List.all_eq_true.mp h
  refine ⟨hk, hcf, ho, fun y hy e => ?_, fun y hy e => ?_, fun y hy e => ?_⟩
  · have := a y hy
    rw [e] at this
    simpa using this
  · have := a y hy
    rw [e] at this
    simpa using this
  · have := a y hy
    rw [e] at this
    have h2 : X.env.scope.names.lookup y.1 = some .cell := by simpa using this
    exact h2
end L2
namespace L2
open PySem PySem.Spec PyProof.Rows
/-! ### list(range(n)), sorted of a list of ints -/
def tLRange (ta : TA) : TE := fun σ H Q => ta σ H fun vs H1 => ∃ j : Int, vs = [.int j] ∧ 0 ≤ j ∧ j ≤ 1000 ∧ ∀ l, H1 l = none → Q (.ref l) (upd H1 l (.lst ((WM.lowTo j.toNat).map V.int)))
theorem vals_low : ∀ (vs : List Value) (n : Nat), vs.length = n → (∀ (j : Nat) (v : Value), vs[j]? = some v → ∃ t, v = .int (0 + (j : Int) * 1) t) → Vals ((WM.lowTo n).map V.int) vs := by
  have key : ∀ (vs : List Value) (a : Nat), (∀ (j : Nat) (v : Value), vs[j]? = some v → ∃ t, v = .int ((a + j : Nat) : Int) t) → Vals ((List.range' a vs.length).map fun (i : Nat) => V.int (i : Int)) vs := by
    intro vs
    induction vs with
    | nil => intro _ _; exact .nil
    | cons v r ih =>
      intro a h
      obtain ⟨t, ht⟩ := h 0 v rfl
      rw [List.length_cons, List.range'_succ, List.map_cons]
      refine .cons ⟨t, by rw [ht]; rfl⟩ (ih (a + 1) fun j u hj => ?_)
      obtain ⟨t', ht'⟩ := h (j + 1) u hj
      exact ⟨t', by rw [ht']; congr 1; omega⟩
  intro vs n e h
  subst e
  have := key vs 0 fun j v hj => by
    obtain ⟨t, ht⟩ := h j v hj
    exact ⟨t, by rw [ht]; congr 1; omega⟩
  unfold WM.lowTo
  rw [List.map_map, List.range_eq_range']
  exact this
section
variable {X : Cx}
theorem pe_lrange {a : Expr} {ta : TA} {p1 p2 pos1 pos2 : Pos} (hc : X.calm = true) (hgL : Gl X "list") (hmL : X.mg "list" = none) (hgR : Gl X "range") (hmR : X.mg "range" = none) (ha : PA X [a] ta) (hs : starEach [a] X.env = [(false, eval a X.env)] := by rfl)
    (he : starEach [.Call (.Name "range" p2) [a] [] pos2] X.env = [(false, eval (.Call (.Name "range" p2) [a] [] pos2) X.env)] := by rfl) : PE X (.Call (.Name "list" p1) [.Call (.Name "range" p2) [a] [] pos2] [] pos1) (tLRange ta) := by
  intro pins s σ H Q I h
  refine wpAny_Call_Name_kw (ld_blt I hgL hmL (by decide +kernel : bootBuiltins "list" = some (.type "list")) ?_ (by decide) (by decide))
  refine PyProof.Rows.callWith_type1 ?_ he rfl
  rw [he]
  refine Calls.spliced_cons ?_
  refine Call_ (ld_blt I hgR hmR boot_range (PyProof.Rows.callWith_type1 (thn (ha pos2 pins s σ H _ I h) fun us s1 ⟨vs, H1, I1, r1, q1⟩ => ?_) hs rfl))
  obtain ⟨j, e, h0, h1, q⟩ := q1
  subst e
  cases r1 with
  | cons r rr =>
    cases rr
    obtain ⟨t, rfl⟩ := r
    refine call_range_1 ?_
    refine Calls.spliced_nil ?_
    have hz : Builtin.Range.rangeSize 0 j 1 = (j.toNat : Int) := by rw [rangeSize_one]; split <;> omega
    refine call_list_range (I.ok.hd hc) (IsRange.new ..) (small_one (by omega) (by omega) (by omega) (by omega)) hz (by omega) fun h' tk acc c' kp hD hI => ?_
    have kp1 : ∀ b o, s1.heap.get? b = some o → h'.get? b = some o := fun b o e => kp b o (Heap.get?_push_of_some _ e)
    have rv : Vals ((WM.lowTo j.toNat).map V.int) acc.toList := vals_low acc.toList _ (by rw [Array.length_toList]; exact hI.1) fun i v hi => hI.2 i v (by rw [← hi, Array.getElem?_toList])
    have hsz : s1.heap.objs.size ≤ (s1.heap.push { cls := .type "range", data := .fields #[.int 0 s1.toks, .int j t, .int 1 (s1.toks + 1)] }).objs.size := by rw [Heap.size_push]; exact Nat.le_succ _
    refine ⟨.ref _, _, I1.laid (t' := tk) kp1 hsz (show ObjOk X.prog X.w _ h' _ (.lst ((WM.lowTo j.toNat).map V.int)) from ⟨?_, acc.toList, c', rv, by rw [Array.toArray_toList]; exact hD⟩), rfl, q _ (I1.hok.fresh hsz)⟩
    rw [List.length_map, WM.lowTo, List.length_map, List.length_range]
    have : sizeLine = 16777216 := rfl
    omega
theorem call_sortedI : CallR X (.builtin "sorted") (fun xs H Q => ∃ (p : Addr) (ns : List Int), xs = [.ref p] ∧ SqL X.K H p (ns.map V.int) ∧ ns.length < 64 ∧
    ∀ (l : Addr) (ms : List Int), H l = none → ms.Perm ns → ms.Pairwise (· ≤ ·) → Q (.ref l) (upd H l (.lst (ms.map V.int)))) := by
  intro pins s σ H xs us Q I r h
  obtain ⟨p, ns, rfl, hq, h64, q⟩ := h
  obtain ⟨u, rfl, rx⟩ := vals1 r
  cases rx
  obtain ⟨its, r', pl, hz⟩ := I.list hq
  have hI : IntsAre its ns := intsAre_of r'
  have hl := hI.length
  refine SortT.sorted_list (O := intO) (key := fun i => ns.getD i 0) (κ := oneType') pl.isList (by omega) (fun h2 s' a fa kp => asks_ints hI h2) fun D h' out c pt hD kp ho => ?_
  obtain ⟨ms, hp, hr, rz, hlz⟩ := put_ints hI pt
  refine ⟨.ref D, _, sorted_fin (t' := s.toks) I hD kp ho rz ?_, rfl, q D ms (I.hok.fresh hD) hp hr⟩
  have : sizeLine = 16777216 := rfl
  rw [List.length_map]
  omega
end
section
variable {X : Cx} {pl : List (Addr × Obj)} {N' : List Str} {sc : Scope} {fp : List Addr} {s3 : Shared} {H3 : Hp}
theorem call_len_seqC : CallR (cxComp X pl N' sc fp s3 H3) (.builtin "len") (fun xs H Q => ∃ p ys, xs = [.ref p] ∧ (SqL X.K H p ys ∨ SqT X.K H p ys) ∧ Q (.int ys.length) H) := call_len_seq
theorem pe_bmC {o e : Expr} {es : List Expr} {to : TE} {t : TA} {name : Str} {apos cpos : Pos} {T id : String} {r : V → List V → Hp → VK → Prop} (pa : PlainAttrs T) (slot : Slot T name id) (hty : typeOf (.builtin id) = pure (.type "method_descriptor")) (hm : MtR (cxComp X pl N' sc fp s3 H3) id r) (ho : PE (cxComp X pl N' sc fp s3 H3) o to) (ha : PA (cxComp X pl N' sc fp s3 H3) (e :: es) t)
    (hbase : attributeBase o name (cxComp X pl N' sc fp s3 H3).env (eval o (cxComp X pl N' sc fp s3 H3).env) = eval o (cxComp X pl N' sc fp s3 H3).env := by rfl)
    (hfew : ((backTo cpos (starEach (e :: es) (cxComp X pl N' sc fp s3 H3).env)).all (fun x => !x.1) && (backToKw cpos (keywordEach [] (cxComp X pl N' sc fp s3 H3).env)).all (fun x => x.1.isSome)
      && decide ((e :: es).length + ([] : List Keyword).length + (if ([] : List Keyword).isEmpty then 0 else 1) < 30)) = true := by rfl)
    (hline : (apos.endLine == cpos.line) = true := by rfl) (hs : starEach (e :: es) (cxComp X pl N' sc fp s3 H3).env = (false, eval e (cxComp X pl N' sc fp s3 H3).env) :: starEach es (cxComp X pl N' sc fp s3 H3).env := by rfl) (hplain : (backTo cpos (starEach es (cxComp X pl N' sc fp s3 H3).env)).any (·.1) = false := by rfl) :
    PE (cxComp X pl N' sc fp s3 H3) (.Call (.Attribute o name apos) (e :: es) [] cpos) (tBM X.K T r to t) := pe_bm pa slot hty hm ho ha hbase hfew hline hs hplain
end
section
variable {X : Cx}
/-- a list against the written empty one -/
def rNeE (K : PySem.W.Frag) : R2 := fun x y H Q => ∃ (a b : Addr) (xs : List V), x = .ref a ∧ y = .ref b ∧ SqL K H a xs ∧ SqL K H b [] ∧ Q (.bl (!xs.isEmpty)) H
def rEqE (K : PySem.W.Frag) : R2 := fun x y H Q => ∃ (a b : Addr) (xs : List V), x = .ref a ∧ y = .ref b ∧ SqL K H a xs ∧ SqL K H b [] ∧ Q (.bl xs.isEmpty) H
theorem op_neE (hu : X.A.units < cLine) : OpR X (compareOp .NotEq) (rNeE X.K) := by
  intro pins s σ H x y v u Q I rx ry h
  obtain ⟨a, b, xs, rfl, rfl, ha, hb, q⟩ := h
  cases rx
  cases ry
  obtain ⟨its, r, pl, hz⟩ := I.list ha
  obtain ⟨its2, r2, pl2, hz2⟩ := I.list hb
  have l1 := r.length
  have l2 := r2.length
  cases xs with
  | nil =>
    refine PySem.EqBoolInt.of_rcne (SeqAt.RcNeAt.lists (e := fun _ => true) pl.isList pl2.isList (by rw [List.size_toArray, List.size_toArray, ← l1, ← l2]) hu (fun j a b => absurd a (by rw [List.size_toArray, ← l1]; exact Nat.not_lt_zero _))) ⟨.bl _, H, I, rfl, ?_⟩
    rw [List.size_toArray, ← l1]
    exact q
  | cons x xs =>
    refine PySem.EqBoolInt.of_rcne (SeqAt.RcNeAt.lists_lengths pl.isList pl2.isList (by rw [List.size_toArray, List.size_toArray, ← l1, ← l2]; rfl) hu) ⟨.bl _, H, I, rfl, ?_⟩
    exact q
theorem op_eqE (hu : X.A.units < cLine) : OpR X (compareOp .Eq) (rEqE X.K) := by
  intro pins s σ H x y v u Q I rx ry h
  obtain ⟨a, b, xs, rfl, rfl, ha, hb, q⟩ := h
  cases rx
  cases ry
  obtain ⟨its, r, pl, hz⟩ := I.list ha
  obtain ⟨its2, r2, pl2, hz2⟩ := I.list hb
  have l1 := r.length
  have l2 := r2.length
  cases xs with
  | nil =>
    refine SeqAt.eq_listAt (e := fun _ => true) pl.isList pl2.isList (by rw [List.size_toArray, List.size_toArray, ← l1, ← l2]) hu (fun j a b => absurd a (by rw [List.size_toArray, ← l1]; exact Nat.not_lt_zero _)) ⟨.bl _, H, I, rfl, ?_⟩
    rw [List.size_toArray, ← l1]
    exact q
  | cons x xs =>
    refine SeqAt.eq_list_lengthsAt pl.isList pl2.isList (by rw [List.size_toArray, List.size_toArray, ← l1, ← l2]; rfl) hu ⟨.bl _, H, I, rfl, ?_⟩
    exact q
end
end L2
namespace K02
open PySem L2 WM
def top (i : Nat) : Stmt := PySem.Challenge.pw_labelways_k02_ties_and_neighbours.main.body.getD i (.Pass ⟨0, 0, 0, 0⟩)
abbrev sTies : Stmt := top 1
abbrev sLong : Stmt := top 2
abbrev sBeside : Stmt := top 3
abbrev sWhole : Stmt := top 4
abbrev sJw : Stmt := top 5
abbrev sTape : Stmt := top 7
abbrev sDraw : Stmt := top 8
abbrev sN : Stmt := top 9
abbrev sWeb : Stmt := top 10
abbrev sMet : Stmt := top 11
abbrev sLaw : Stmt := top 12
/-! ### the tape -/
/-- the tape at t: a list of ints, a place of at most N, a rest -/
def TapeP (H : Hp) (t p : Addr) (N : Nat) : Prop := ∃ (ns : List Int) (spot rest : Int), H t = some (.lst [.ref p, .int spot, .int rest]) ∧ H p = some (.lst (ns.map V.int)) ∧ p ≠ t ∧ 0 ≤ spot ∧ spot ≤ N ∧ 0 ≤ rest ∧ ns.length ≤ 63
def TapeAt (H : Hp) (t : Addr) (N : Nat) : Prop := ∃ p : Addr, TapeP H t p N
theorem TapeAt.mono {H : Hp} {t : Addr} {N M : Nat} (h : TapeAt H t N) (l : N ≤ M) : TapeAt H t M := by
  obtain ⟨p, ns, spot, rest, a, b, c, d, e, f⟩ := h
  exact ⟨p, ns, spot, rest, a, b, c, d, by omega, f⟩
/-- all that was tracked but t is as it was -/
def Sm (t : Addr) (H H' : Hp) : Prop := ∀ b o, b ≠ t → H b = some o → H' b = some o
theorem Sm.refl (t : Addr) (H : Hp) : Sm t H H := fun _ _ _ e => e
theorem Sm.trans {t : Addr} {H H1 H2 : Hp} (a : Sm t H H1) (b : Sm t H1 H2) : Sm t H H2 := fun c o n e => b c o n (a c o n e)
theorem Sm.of {t : Addr} {H H' : Hp} (h : Same H H') : Sm t H H' := fun b o _ e => h b o e
theorem Sm.laid {t l : Addr} {H : Hp} {o : HO} (h : H l = none) : Sm t H (upd H l o) := fun b u _ e => by rw [upd_ne (ne_of_none e h)]; exact e
theorem Sm.chg {t l : Addr} {H H' : Hp} {o : HO} (s : Sm t H H') (h : H l = none) : Sm t H (upd H' l o) := fun b u n e => by rw [upd_ne (ne_of_none e h)]; exact s b u n e
theorem same_laid {l : Addr} {H : Hp} {o : HO} (h : H l = none) : Same H (upd H l o) := fun b u e => by rw [upd_ne (ne_of_none e h)]; exact e
theorem same_chg {l : Addr} {H H' : Hp} {o : HO} (s : Same H H') (h : H l = none) : Same H (upd H' l o) := fun b u e => by rw [upd_ne (ne_of_none e h)]; exact s b u e
theorem TapeAt.keep {H H' : Hp} {t : Addr} {N : Nat} (h : TapeAt H t N) (k : Same H H') : TapeAt H' t N := by
  obtain ⟨p, ns, spot, rest, a, b, c⟩ := h
  exact ⟨p, ns, spot, rest, k _ _ a, k _ _ b, c⟩
theorem TapeAt.laid {H : Hp} {t l : Addr} {N : Nat} {o : HO} (h : TapeAt H t N) (hl : H l = none) : TapeAt (upd H l o) t N := h.keep (same_laid hl)
theorem TapeAt.ne {H : Hp} {t b : Addr} {N : Nat} (h : TapeAt H t N) (hb : H b = none) : b ≠ t := by
  obtain ⟨p, ns, spot, rest, a, _⟩ := h
  exact (ne_of_none a hb).symm
/-- a change elsewhere, at what is no list -/
theorem TapeAt.chg {H : Hp} {t l : Addr} {N : Nat} {o u : HO} (h : TapeAt H t N) (hl : H l = some u) (hu : ∀ xs, u ≠ .lst xs) : TapeAt (upd H l o) t N := by
  obtain ⟨p, ns, spot, rest, a, b, c⟩ := h
  exact ⟨p, ns, spot, rest, by rw [upd_ne (ne_of a hl fun z => hu _ z.symm)]; exact a, by rw [upd_ne (ne_of b hl fun z => hu _ z.symm)]; exact b, c⟩

theorem TapeP.keepF {H H' : Hp} {t p : Addr} {N M : Nat} (h : TapeP H t p N) (k1 : ∀ o, H t = some o → H' t = some o) (k2 : ∀ o, H p = some o → H' p = some o) (l : N ≤ M) : TapeP H' t p M := by
  obtain ⟨ns, spot, rest, a, b, c, d, e, f⟩ := h
  exact ⟨ns, spot, rest, k1 _ a, k2 _ b, c, d, by omega, f⟩
def spDrawP : Sp := fun vs H Q _ => ∃ (t p : Addr) (N : Nat) (many : Int), vs = [.ref t, .int many] ∧ TapeP H t p N ∧ N < 1000000 ∧ 0 < many ∧ many < 1000000 ∧
  ∀ (r : Int) (H' : Hp), 0 ≤ r → r < many → TapeP H' t p (N + 1) → (∀ b, b ≠ t → H' b = H b) → Q (.int r) H'
def spDraw : Sp := fun vs H Q _ => ∃ (t : Addr) (N : Nat) (many : Int), vs = [.ref t, .int many] ∧ TapeAt H t N ∧ N < 1000000 ∧ 0 < many ∧ many < 1000000 ∧
  ∀ (r : Int) (H' : Hp), 0 ≤ r → r < many → TapeAt H' t (N + 1) → (∀ b, b ≠ t → H' b = H b) → Q (.int r) H'
def spTape (K : PySem.W.Frag) : Sp := fun vs H Q _ => ∃ (a : Addr) (ns : List Int), vs = [.ref a] ∧ SqL K H a (ns.map V.int) ∧ ns.length ≤ 63 ∧ ∀ (t : Addr) (H' : Hp), H t = none → TapeAt H' t 0 → Same H H' → Q (.ref t) H'
section
variable {P : Program} {w : World} {K : PySem.W.Frag} {mg : Str → Option Value} {base : Heap}
theorem scTape : FnScope ["_law_script"] ["_law_script"] (defScope sTape) := ⟨rfl, rfl, rfl, by decide +kernel, rfl, by decide +kernel, by decide +kernel⟩
theorem ok_tape {f : Addr} {fd : FuncData} (F : Fun K "_law_tape" "_law_tape" sTape f fd) : FnOk P w K mg base CX0 1 f fd ["_law_script"] (spTape K) := by
  refine F.ok scTape (fun vs H Q E h => ?_) (fun cdv A outer s H vs Q E hr h => ?_)
  · obtain ⟨a, ns, rfl, _⟩ := h
    rfl
  · obtain ⟨a, ns, rfl, hS, hl, k⟩ := h
    refine ⟨_, pss_one (ps_ret (pe_lst (pa_cons (pe_slice sl_list (pv 0) po_none (po_some pe_int)) (pa_int (pa_int pa_nil))))), ?_⟩
    refine ⟨_, rfl, _, rfl, a, _, rfl, hS, fun p hp => ⟨by show 3 ≤ sizeLine; decide, fun t ht => ?_⟩⟩
    have npt : p ≠ t := fun e => by rw [e, upd_same] at ht; cases ht
    have e1 : cutV (ns.map V.int) none (some 63) = (ns.take 63).map V.int := by
      unfold cutV
      rw [HT.sIx_none, List.drop_zero, Nat.sub_zero, List.length_map, show (63 : Int) = ((63 : Nat) : Int) from rfl, HT.sIx_nat, List.map_take]
      rw [show min 63 ns.length = ns.length by omega, List.take_of_length_le (by rw [List.length_map]; exact Nat.le_refl _), List.take_of_length_le (by rw [List.length_map]; exact hl)]
    have ht0 : H t = none := by rw [upd_ne npt.symm] at ht; exact ht
    refine k t _ ht0 ⟨p, ns.take 63, 0, 0, upd_same, ?_, npt, Int.le_refl _, Int.le_refl _, Int.le_refl _, by rw [List.length_take]; omega⟩ ?_
    · rw [upd_ne npt, upd_same, e1]
    · exact same_chg (same_laid hp) ht0
theorem scDraw : FnScope ["_law_tape_here", "_law_many", "_law_found", "_law_spot", "_law_cell", "_law_mixed"] ["_law_tape_here", "_law_many"] (defScope sDraw) := ⟨rfl, rfl, rfl, by decide +kernel, rfl, by decide +kernel, by decide +kernel⟩
theorem mod_in {a m : Int} (h : 0 < m) : 0 ≤ a % m ∧ a % m < m := ⟨Int.emod_nonneg _ (by omega), Int.emod_lt_of_pos _ h⟩
theorem ok_drawP {f : Addr} {fd : FuncData} (F : Fun K "_law_draw" "_law_draw" sDraw f fd) (mLen : mg "len" = none) : FnOk P w K mg base CX0 1 f fd ["_law_tape_here", "_law_many"] spDrawP := by
  refine F.ok scDraw (fun vs H Q E h => ?_) (fun cdv A outer s H vs Q E hr h => ?_)
  · obtain ⟨t, p, N, many, rfl, _⟩ := h
    rfl
  · obtain ⟨t, p, N, many, rfl, T, hN, hm0, hm1, k⟩ := h
    obtain ⟨ns, spot, rest, ht, hp, hne, hs0, hs1, hr0, hl⟩ := T
    refine ⟨_, pss_cons (ps_if (pt_cmpR op_gt (pe_ix ix_list (pv 0) pe_int (fun _ _ => rfl)) pe_int (nomark _))
        (pss_cons (ps_set (i := 2) scDraw.nd rfl (Or.inl rfl) (pe_op op_mod (pe_ix ix_list (pv 0) pe_int (fun _ _ => rfl)) (pv 1)))
        (pss_cons (ps_asg (pe_op op_fdiv (pe_ix ix_list (pv 0) pe_int (fun _ _ => rfl)) (pv 1)) (pg_sub (pv 0) pe_int set_list))
        (pss_one (ps_ret (pv 2))))) pss_nil)
      (pss_cons (ps_set (i := 3) scDraw.nd rfl (Or.inl rfl) (pe_ix ix_list (pv 0) pe_int (fun _ _ => rfl)))
      (pss_cons (ps_asg (pe_op op_add (pv 3) pe_int) (pg_sub (pv 0) pe_int set_list))
      (pss_cons (ps_set (i := 4) scDraw.nd rfl (Or.inl rfl) (pe_ifExp (pt_cmpR op_gt (pe_callB call_len_seq (by rfl) mLen PySem.boot_len (pa_cons (pe_ix ix_list (pv 0) pe_int (fun _ _ => rfl)) pa_nil)) pe_int (nomark _))
        (pe_ix ix_list (pe_ix ix_list (pv 0) pe_int (fun _ _ => rfl)) (pe_op op_mod (pv 3) (pe_callB call_len_seq (by rfl) mLen PySem.boot_len (pa_cons (pe_ix ix_list (pv 0) pe_int (fun _ _ => rfl)) pa_nil))) (fun _ _ => rfl)) pe_int))
      (pss_cons (ps_if (pw_and (pt_cmpR op_ge (pv 4) (pe_op op_pow pe_int pe_int) (nomark _)) (pw_and1 (pt_cmpR op_lt (pv 3) (pe_callB call_len_seq (by rfl) mLen PySem.boot_len (pa_cons (pe_ix ix_list (pv 0) pe_int (fun _ _ => rfl)) pa_nil)) (nomark _)))).pt
        (pss_cons (ps_asg (pe_op op_fdiv (pv 4) (pv 1)) (pg_sub (pv 0) pe_int set_list)) (pss_one (ps_ret (pe_op op_mod (pv 4) (pv 1))))) pss_nil)
      (pss_cons (ps_set (i := 5) scDraw.nd rfl (Or.inl rfl) (pe_op op_mod (pe_op op_mul (pe_op op_add (pe_op op_mod (pv 4) pe_int) pe_int) (pe_op op_add pe_int (pe_op op_mul pe_int (pv 3)))) pe_int))
      (pss_one (ps_ret (pe_op op_mod (pe_op op_fdiv (pe_op op_mod (pe_op op_mul (pe_op op_add (pv 5) (pe_op op_mul (pe_op op_mul pe_int (pv 3)) (pv 3))) pe_int) pe_int) pe_int) (pv 1))))))))), ?_⟩
    have cd : CDiv 0 many := ⟨hm0, by omega⟩
    -- if tape[2] > 0
    refine ⟨_, rfl, t, _, _, _, rfl, rfl, SqL.of ht, rfl, _, _, rfl, rfl, _, rfl, ?_⟩
    refine ite2 (fun hc => ?_) (fun hc => ?_)
    · have hpos : 0 < rest := of_decide_eq_true hc
      refine ⟨_, rfl, t, _, _, _, rfl, rfl, SqL.of ht, rfl, _, rfl, _, _, rfl, rfl, hm0, ?_⟩
      refine ⟨_, rfl, t, _, _, _, rfl, rfl, SqL.of ht, rfl, _, rfl, _, _, rfl, rfl, cd, ?_⟩
      refine ⟨_, rfl, t, _, _, 2, rfl, rfl, ht, rfl, ?_⟩
      refine ⟨_, rfl, ?_⟩
      refine k _ _ (mod_in hm0).1 (mod_in hm0).2 ⟨ns, spot, rest / many, upd_same, by rw [upd_ne hne]; exact hp, hne, hs0, by omega, Int.ediv_nonneg hr0 (by omega), hl⟩ fun b hb => upd_ne hb
    · -- spot = tape[1]; tape[1] = spot + 1
      refine ⟨_, rfl, t, _, _, _, rfl, rfl, SqL.of ht, rfl, ?_⟩
      refine ⟨_, rfl, _, _, rfl, rfl, _, rfl, t, _, _, 1, rfl, rfl, ht, rfl, ?_⟩
      have ht1 : (upd H t (.lst [.ref p, .int (spot + 1), .int rest])) t = some (.lst [.ref p, .int (spot + 1), .int rest]) := upd_same
      have hp1 : (upd H t (.lst [.ref p, .int (spot + 1), .int rest])) p = some (.lst (ns.map V.int)) := by rw [upd_ne hne]; exact hp
      have ex : 0 < ((ns.map V.int).length : Int) → ∃ c, atI (ns.map V.int) (spot % ((ns.map V.int).length : Int)) = some (.int c) := fun h => by
        have hb := mod_in (a := spot) h
        obtain ⟨j, hj⟩ := Int.eq_ofNat_of_zero_le hb.1
        have hlt : j < ns.length := by
          have h2 := hb.2
          rw [hj, List.length_map] at h2
          omega
        refine ⟨ns[j], ?_⟩
        rw [hj]
        exact atI_nat (by simp [hlt])
      -- cell
      refine ⟨_, rfl, t, _, _, _, rfl, rfl, SqL.of ht1, rfl, p, _, rfl, .inl (SqL.of hp1), _, _, rfl, rfl, _, rfl, ?_⟩
      refine ite2 (fun h2 => ?a) (fun h2 => ?b)
      case' a =>
        obtain ⟨c, hc⟩ := ex (of_decide_eq_true h2)
        refine ⟨_, rfl, t, _, _, _, rfl, rfl, SqL.of ht1, rfl, _, rfl, _, rfl, t, _, _, _, rfl, rfl, SqL.of ht1, rfl, p, _, rfl, .inl (SqL.of hp1), _, _, rfl, rfl, of_decide_eq_true h2, p, _, _, _, rfl, rfl, SqL.of hp1, hc, ?_⟩
      all_goals
        refine ⟨_, rfl, _, _, rfl, rfl, ⟨by decide, by decide, by decide⟩, _, _, rfl, rfl, _, rfl, ?_⟩
        refine ite2 (fun h3 => ?_) (fun h3 => ?_)
      all_goals first
        | (refine ⟨_, rfl, _, rfl, t, _, _, _, rfl, rfl, SqL.of ht1, rfl, p, _, rfl, .inl (SqL.of hp1), _, _, rfl, rfl, _, rfl, ?_⟩; refine ite2 (fun h4 => ?_) (fun h4 => ?_))
        | refine iteF ?_
      all_goals first
        | (refine ⟨_, rfl, _, rfl, _, _, rfl, rfl, ⟨hm0, by omega⟩, _, rfl, t, _, _, 2, rfl, rfl, ht1, rfl, ?_⟩
           refine ⟨_, rfl, _, rfl, _, _, rfl, rfl, hm0, ?_⟩
           refine k _ _ (mod_in hm0).1 (mod_in hm0).2 ⟨ns, spot + 1, _, upd_same, by rw [upd_ne hne]; exact hp1, hne, by omega, by omega, Int.ediv_nonneg (Int.le_trans (show (0 : Int) ≤ 10 ^ (18 : Int).toNat by decide) (of_decide_eq_true h3)) (by omega), hl⟩ fun b hb => by rw [upd_ne hb, upd_ne hb])
        | (refine ⟨_, rfl, _, _, rfl, rfl, (by dsimp only; decide), _, _, rfl, rfl, _, rfl, _, _, rfl, rfl, .inl ⟨by decide, by decide⟩, _, _, rfl, rfl, _, _, rfl, rfl, .inl ⟨by omega, by omega⟩, _, _, rfl, rfl, (by dsimp only; decide), ?_⟩
           refine ⟨_, rfl, _, rfl, _, _, rfl, rfl, .inl ⟨by decide, by decide⟩, _, rfl, _, _, rfl, rfl, .inr ⟨by omega, by omega⟩, _, _, rfl, rfl, _, _, rfl, rfl, .inr ⟨by decide, by decide⟩, _, _, rfl, rfl, (by dsimp only; decide), _, _, rfl, rfl, ⟨by decide, by decide⟩, _, rfl, _, _, rfl, rfl, hm0, ?_⟩
           refine k _ _ (mod_in hm0).1 (mod_in hm0).2 ⟨ns, spot + 1, rest, ht1, hp1, hne, by omega, by omega, hr0, hl⟩ fun b hb => upd_ne hb)
theorem ok_draw {f : Addr} {fd : FuncData} (F : Fun K "_law_draw" "_law_draw" sDraw f fd) (mLen : mg "len" = none) : FnOk P w K mg base CX0 1 f fd ["_law_tape_here", "_law_many"] spDraw :=
  (ok_drawP F mLen).imp fun vs H Q E ⟨t, N, many, e, ⟨p, T⟩, a, b, c, k⟩ => ⟨t, p, N, many, e, T, a, b, c, fun r H' h0 h1 T' he => k r H' h0 h1 ⟨p, T'⟩ he⟩
end
/-! ### a web by draws -/
theorem menu_at {L : List Int} {r : Int} (h0 : 0 ≤ r) (h1 : r < L.length) : ∃ n, n ∈ L ∧ atI (L.map V.int) r = some (.int n) := by
  obtain ⟨j, rfl⟩ := Int.eq_ofNat_of_zero_le h0
  have hj : j < L.length := by omega
  exact ⟨L[j], List.getElem_mem hj, atI_nat (by simp [hj])⟩
def spN : Sp := fun vs H Q _ => ∃ (t : Addr) (N : Nat), vs = [.ref t] ∧ TapeAt H t N ∧ N < 900000 ∧ ∀ (n : Int) (H' : Hp), 1 ≤ n → n ≤ 12 → TapeAt H' t (N + 1) → Sm t H H' → Q (.int n) H'
def WebAt (H : Hp) (wa : Addr) (n : Int) (ts : List T3) : Prop := ∃ (ta : Addr) (tys : List V), H wa = some (.tup [.int n, .ref ta]) ∧ H ta = some (.tup tys) ∧ TupsAre H tys (ts.map tl) ∧ GW n ts
theorem WebAt.keepT {H H' : Hp} {wa : Addr} {n : Int} {ts : List T3} (h : WebAt H wa n ts) (k : ∀ b ys, H b = some (.tup ys) → H' b = some (.tup ys)) : WebAt H' wa n ts := by
  obtain ⟨ta, tys, a, b, c, d⟩ := h
  exact ⟨ta, tys, k _ _ a, k _ _ b, c.keep k, d⟩
theorem WebAt.keep {H H' : Hp} {wa : Addr} {n : Int} {ts : List T3} (h : WebAt H wa n ts) (k : Same H H') : WebAt H' wa n ts := h.keepT fun b _ e => k b _ e
theorem WebAt.sm {H H' : Hp} {wa t : Addr} {N : Nat} {n : Int} {ts : List T3} (h : WebAt H wa n ts) (T : TapeAt H t N) (k : Sm t H H') : WebAt H' wa n ts := h.keepT fun b _ e => by
  obtain ⟨p, ns, spot, rest, a, _⟩ := T
  exact k b _ (ne_of e a (by intro z; cases z)) e
def spWeb : Sp := fun vs H Q _ => ∃ (t : Addr) (N : Nat) (n : Int), vs = [.ref t, .int n] ∧ TapeAt H t N ∧ N < 900000 ∧ 1 ≤ n ∧ n ≤ 24 ∧
  ∀ (wa : Addr) (ts : List T3) (H' : Hp), H wa = none → WebAt H' wa n ts → TapeAt H' t (N + 200) → Sm t H H' → Q (.ref wa) H'
/-- the pairs of the dict: two places below n, the first one the less, a long -/
def JD (n : Int) (kvs : List (List Key × V)) : Prop := (∀ kv ∈ kvs, ∃ a b l : Int, kv = ([Sum.inl a, Sum.inl b], V.int l) ∧ 0 ≤ a ∧ a < b ∧ b < n ∧ 1 ≤ l ∧ l ≤ 99) ∧ (kvs.map (·.1)).Nodup
theorem JD.nil (n : Int) : JD n [] := ⟨fun _ h => by simp at h, List.nodup_nil⟩
theorem JD.put {n : Int} {kvs : List (List Key × V)} (h : JD n kvs) {a b l : Int} (h0 : 0 ≤ a) (h1 : a < b) (h2 : b < n) (h3 : 1 ≤ l) (h4 : l ≤ 99) : JD n (putK kvs [Sum.inl a, Sum.inl b] (.int l)) := by
  cases e : valV kvs [Sum.inl a, Sum.inl b] with
  | none =>
    refine ⟨fun kv hkv => ?_, nd_putK _ h.2 e⟩
    rw [putK_new _ e] at hkv
    rcases List.mem_append.mp hkv with q | q
    · exact h.1 kv q
    · rw [List.mem_singleton.mp q]; exact ⟨a, b, l, rfl, h0, h1, h2, h3, h4⟩
  | some v =>
    have ha : (kvs.any fun kv => decide (kv.1 = [Sum.inl a, Sum.inl b])) = true := by rw [valV_any, e]; rfl
    unfold putK
    rw [if_pos ha]
    refine ⟨fun kv hkv => ?_, ?_⟩
    · obtain ⟨q, hq, e2⟩ := List.mem_map.mp hkv
      by_cases hk : q.1 = [Sum.inl a, Sum.inl b]
      · rw [if_pos hk, hk] at e2; rw [← e2]; exact ⟨a, b, l, rfl, h0, h1, h2, h3, h4⟩
      · rw [if_neg hk] at e2; rw [← e2]; exact h.1 q hq
    · have e3 : (kvs.map fun kv => if kv.1 = [Sum.inl a, Sum.inl b] then (kv.1, V.int l) else kv).map (·.1) = kvs.map (·.1) := by
        rw [List.map_map]
        refine List.map_congr_left fun kv _ => ?_
        show (if kv.1 = [Sum.inl a, Sum.inl b] then (kv.1, V.int l) else kv).1 = kv.1
        split <;> rfl
      rw [e3]; exact h.2
def unk : Key → Int
  | .inl i => i
  | .inr _ => 0
def keysI (kvs : List (List Key × V)) : List (List Int) := kvs.map fun kv => kv.1.map unk
theorem JD.keys {n : Int} {kvs : List (List Key × V)} (h : JD n kvs) : kvs.map (·.1) = (keysI kvs).map (List.map Sum.inl) := by
  unfold keysI
  rw [List.map_map]
  refine List.map_congr_left fun kv hkv => ?_
  obtain ⟨a, b, l, e, _⟩ := h.1 kv hkv
  rw [e]; rfl
theorem JD.ne {n : Int} {kvs : List (List Key × V)} (h : JD n kvs) : ∀ k ∈ keysI kvs, k ≠ [] := fun k hk => by
  obtain ⟨kv, hkv, e⟩ := List.mem_map.mp hk
  obtain ⟨a, b, l, e2, _⟩ := h.1 kv hkv
  rw [← e, e2]; simp [List.map]
theorem JD.nd {n : Int} {kvs : List (List Key × V)} (h : JD n kvs) : (keysI kvs).Nodup := by
  have e := h.2
  rw [h.keys] at e
  rw [List.Nodup, List.pairwise_map] at e
  exact e.imp fun h e' => h (by rw [e'])
/-- each key has its long -/
theorem JD.val {n : Int} {kvs : List (List Key × V)} (h : JD n kvs) {k : List Int} (hk : k ∈ keysI kvs) : ∃ a b l, k = [a, b] ∧ valV kvs [Sum.inl a, Sum.inl b] = some (.int l) ∧ 0 ≤ a ∧ a < b ∧ b < n ∧ 1 ≤ l ∧ l ≤ 99 := by
  obtain ⟨kv, hkv, e⟩ := List.mem_map.mp hk
  obtain ⟨a, b, l, e2, h0, h1, h2, h3, h4⟩ := h.1 kv hkv
  have ek : k = [a, b] := by rw [← e, e2]; rfl
  have hm : (kvs.any fun kv => decide (kv.1 = [Sum.inl a, Sum.inl b])) = true := List.any_eq_true.mpr ⟨kv, hkv, decide_eq_true (by rw [e2])⟩
  rw [valV_any] at hm
  cases hv : valV kvs [Sum.inl a, Sum.inl b] with
  | none => rw [hv] at hm; cases hm
  | some v =>
    have hv0 := hv
    unfold valV at hv
    cases hf : kvs.find? fun kv => decide (kv.1 = [Sum.inl a, Sum.inl b]) with
    | none => rw [hf] at hv; cases hv
    | some q =>
      rw [hf] at hv
      obtain ⟨a', b', l', e3, _, _, _, g3, g4⟩ := h.1 q (List.mem_of_find?_eq_some hf)
      have ev : v = .int l' := by rw [e3] at hv; exact (Option.some.inj hv).symm
      exact ⟨a, b, l', ek, by rw [hv0, ev], h0, h1, h2, g3, g4⟩
section
variable {P : Program} {w : World} {K : PySem.W.Frag} {mg : Str → Option Value} {base : Heap}
theorem scN : FnScope ["_law_tape_here"] ["_law_tape_here"] (defScope sN) := ⟨rfl, rfl, rfl, by decide +kernel, rfl, by decide +kernel, by decide +kernel⟩
theorem ok_n {f fD : Addr} {fd fdD : FuncData} (F : Fun K "_law_n" "_law_n" sN f fd) (FD : Fun K "_law_draw" "_law_draw" sDraw fD fdD) (bD : Binds K fdD ["_law_tape_here", "_law_many"] []) (mD : mg "_law_draw" = some (.ref fD)) (mLen : mg "len" = none) :
    FnOk P w K mg base CX0 2 f fd ["_law_tape_here"] spN := by
  have GD : FnOk P w K mg base CX0 1 fD fdD ["_law_tape_here", "_law_many"] spDraw := ok_draw FD mLen
  refine F.ok scN (fun vs H Q E h => ?_) (fun cdv A outer s H vs Q E hr h => ?_)
  · obtain ⟨t, N, rfl, _⟩ := h
    rfl
  · obtain ⟨t, N, rfl, T, hN, k⟩ := h
    obtain ⟨es, q1, q2, j3, q3, q4, p1, p2, p3, hb, hes⟩ : ∃ es q1 q2 j3 q3 q4 p1 p2 p3, defBody sN = [.Return (some (.Subscript (.List es p1) (.Call (.Name "_law_draw" q1) [.Name "_law_tape_here" q2, .Constant (.int 12) j3 q3] [] q4) p2)) p3] ∧
      LitInts es [1, 2, 3, 4, 5, 6, 7, 8, 6, 5, 4, 12] := ⟨_, _, _, _, _, _, _, _, _, rfl, by repeat constructor⟩
    rw [hb]
    refine ⟨_, pss_one (ps_ret (pe_ix ix_list (pe_lst (pa_lits hes))
      (pe_call GD hr rfl mD FD.kp bD .nil pass0 (pa_cons (pv 0) (pa_cons pe_int pa_nil))) (fun _ _ => rfl))), ?_⟩
    refine ⟨by show 12 ≤ sizeLine; decide, fun l hl => ?_⟩
    refine ⟨_, rfl, t, N, 12, rfl, T.laid hl, by omega, by decide, by decide, fun r H' h0 h1 T' he => ?_⟩
    have nlt : l ≠ t := T.ne hl
    obtain ⟨n, hn, ha⟩ := menu_at (L := [1, 2, 3, 4, 5, 6, 7, 8, 6, 5, 4, 12]) h0 h1
    have hb : 1 ≤ n ∧ n ≤ 12 := by
      have : ∀ m ∈ ([1, 2, 3, 4, 5, 6, 7, 8, 6, 5, 4, 12] : List Int), 1 ≤ m ∧ m ≤ 12 := by decide
      exact this n hn
    refine ⟨l, _, _, _, rfl, rfl, SqL.of (by rw [he l nlt]; exact upd_same), ha, ?_⟩
    refine k n H' hb.1 hb.2 T' fun b o hb e => ?_
    rw [he b hb, upd_ne (ne_of_none e hl)]
    exact e
end
section
variable {P : Program} {w : World} {K : PySem.W.Frag} {mg : Str → Option Value} {base : Heap}
/-- the state of the dict's loops -/
structure WI (H : Hp) (t d la : Addr) (n : Int) (N m : Nat) (H2 : Hp) : Prop where
  sm : Sm t H H2
  tp : TapeAt H2 t N
  dc : ∃ kvs, H2 d = some (.dT kvs) ∧ JD n kvs ∧ kvs.length ≤ m
  lg : ∃ l0 l1 l2 : Int, H2 la = some (.lst [.int l0, .int l1, .int l2]) ∧ (∀ l ∈ [l0, l1, l2], 1 ≤ l ∧ l ≤ 99)
/-- behind a draw -/
theorem WI.draw {H H2 H3 : Hp} {t d la : Addr} {n : Int} {N m : Nat} (h : WI H t d la n N m H2) (hd : d ≠ t) (hl : la ≠ t) (T : TapeAt H3 t (N + 1)) (he : ∀ b, b ≠ t → H3 b = H2 b) : WI H t d la n (N + 1) m H3 := by
  refine ⟨fun b o nb e => by rw [he b nb]; exact h.sm b o nb e, T, ?_, ?_⟩
  · rw [he d hd]; exact h.dc
  · rw [he la hl]; exact h.lg
theorem WI.laid {H H2 : Hp} {t d la l : Addr} {n : Int} {N m : Nat} {o : HO} (h : WI H t d la n N m H2) (hl : H2 l = none) : WI H t d la n N m (upd H2 l o) := by
  obtain ⟨kvs, a, b⟩ := h.dc
  obtain ⟨l0, l1, l2, c, e⟩ := h.lg
  exact ⟨h.sm.trans (Sm.laid hl), h.tp.laid hl, ⟨kvs, by rw [upd_ne (ne_of_none a hl)]; exact a, b⟩, ⟨l0, l1, l2, by rw [upd_ne (ne_of_none c hl)]; exact c, e⟩⟩
theorem WI.put {H H2 : Hp} {t d la : Addr} {n : Int} {N m : Nat} {kvs : List (List Key × V)} (h : WI H t d la n N m H2) (hd0 : H d = none) (hd : H2 d = some (.dT kvs)) {a b l : Int} (h0 : 0 ≤ a) (h1 : a < b) (h2 : b < n) (h3 : 1 ≤ l) (h4 : l ≤ 99) :
    WI H t d la n N (m + 1) (upd H2 d (.dT (putK kvs [Sum.inl a, Sum.inl b] (.int l)))) := by
  obtain ⟨kvs', e, j, hm⟩ := h.dc
  rw [hd] at e
  cases e
  obtain ⟨l0, l1, l2, c, e⟩ := h.lg
  refine ⟨h.sm.chg hd0, h.tp.chg hd (by intro xs z; cases z), ⟨_, upd_same, j.put h0 h1 h2 h3 h4, ?_⟩, ⟨l0, l1, l2, by rw [upd_ne (ne_of c hd (by intro z; cases z))]; exact c, e⟩⟩
  have := length_putK kvs [Sum.inl a, Sum.inl b] (V.int l)
  omega
theorem WI.up {H H2 : Hp} {t d la : Addr} {n : Int} {N m N' m' : Nat} (h : WI H t d la n N m H2) (hN : N ≤ N') (hm : m ≤ m') : WI H t d la n N' m' H2 := by
  obtain ⟨kvs, a, b, c⟩ := h.dc
  exact ⟨h.sm, h.tp.mono hN, ⟨kvs, a, b, by omega⟩, h.lg⟩
theorem at3 {l0 l1 l2 r : Int} (h : ∀ l ∈ [l0, l1, l2], 1 ≤ l ∧ l ≤ 99) (h0 : 0 ≤ r) (h1 : r < 3) : ∃ l, atI [V.int l0, V.int l1, V.int l2] r = some (.int l) ∧ 1 ≤ l ∧ l ≤ 99 := by
  obtain ⟨l, hl, ha⟩ := menu_at (L := [l0, l1, l2]) h0 h1
  exact ⟨l, ha, h l hl⟩
theorem small_line {n : Nat} (h : n ≤ 100000) : n < sizeLine := Nat.lt_of_le_of_lt h (by decide)
/-- the keys in their order become the ties -/
theorem ties_of {n : Int} {kvs : List (List Key × V)} {ms : List (List Int)} (h : JD n kvs) (hp : ms.Perm (keysI kvs)) (hl : kvs.length < 64) (hn : 1 ≤ n) (hn2 : n ≤ 24) {ts : List T3} (e : ts.map (fun t => [t.1, t.2.1]) = ms) (hr : ∀ t ∈ ts, 0 ≤ t.1 ∧ t.1 < t.2.1 ∧ t.2.1 < n ∧ 1 ≤ t.2.2 ∧ t.2.2 ≤ 99) : GW n ts := by
  have hlen : ts.length = kvs.length := by
    have := hp.length_eq
    rw [← e] at this
    simpa [keysI] using this
  refine ⟨hn, hn2, by omega, hr, ?_⟩
  have nd : (ts.map fun t : T3 => [t.1, t.2.1]).Nodup := by rw [e]; exact hp.nodup_iff.mpr h.nd
  rw [List.Nodup, List.pairwise_map] at nd
  exact nd.imp fun hne hc => hne (by rw [hc.1, hc.2])

theorem scWeb : FnScope ["_law_tape_here", "_law_n_here", "_law_longs", "_law_joined", "_law_b", "_law_k", "_law_a"] ["_law_tape_here", "_law_n_here"] (defScope sWeb) := ⟨rfl, rfl, rfl, by decide +kernel, rfl, by decide +kernel, by decide +kernel⟩
theorem ok_web {f fD : Addr} {fd fdD : FuncData} (F : Fun K "_law_web" "_law_web" sWeb f fd) (FD : Fun K "_law_draw" "_law_draw" sDraw fD fdD) (bD : Binds K fdD ["_law_tape_here", "_law_many"] []) (mD : mg "_law_draw" = some (.ref fD)) (mLen : mg "len" = none)
    (mRange : mg "range" = none) (mTuple : mg "tuple" = none) (mSorted : mg "sorted" = none) : FnOk P w K mg base CX0 2 f fd ["_law_tape_here", "_law_n_here"] spWeb := by
  have GD : FnOk P w K mg base CX0 1 fD fdD ["_law_tape_here", "_law_many"] spDraw := ok_draw FD mLen
  refine F.ok scWeb (fun vs H Q E h => ?_) (fun cdv A outer s H vs Q E hr h => ?_)
  · obtain ⟨t, N, n, rfl, _⟩ := h
    rfl
  · obtain ⟨t, N, n, rfl, T, hN, hn1, hn2, k⟩ := h
    have hu := hu_of hr
    obtain ⟨es, q0, q1, q2, j3, q3, q4, p1, p2, p3, hbd, hes⟩ : ∃ es q0 q1 q2 j3 q3 q4 p1 p2 p3, defBody sWeb = .Assign [.Name "_law_longs" q0] (.Subscript (.List es p1) (.Call (.Name "_law_draw" q1) [.Name "_law_tape_here" q2, .Constant (.int 4) j3 q3] [] q4) p2) p3 :: (defBody sWeb).drop 1 ∧
      LitIntss es [[1, 1, 1], [1, 2, 1], [1, 2, 3], [5, 99, 7]] := ⟨_, _, _, _, _, _, _, _, _, _, rfl, .cons (.cons (.cons (.cons .nil))) (by show 3 ≤ sizeLine; decide) (.cons (.cons (.cons (.cons .nil))) (by show 3 ≤ sizeLine; decide) (.cons (.cons (.cons (.cons .nil))) (by show 3 ≤ sizeLine; decide) (.cons (.cons (.cons (.cons .nil))) (by show 3 ≤ sizeLine; decide) (.nil))))⟩
    rw [hbd]
    refine ⟨_, pss_cons (ps_set (i := 2) scWeb.nd rfl (Or.inl rfl) (pe_ix ix_list (pe_lst (pa_litss hes))
        (pe_call GD hr rfl mD FD.kp bD .nil pass0 (pa_cons (pv 0) (pa_int pa_nil))) (fun _ _ => rfl)))
      (pss_cons (ps_set (i := 3) scWeb.nd rfl (Or.inr rfl) pe_dnewT)
      (pss_cons (ps_if (pt_cmpR op_gt (pe_call GD hr rfl mD FD.kp bD .nil pass0 (pa_cons (pv 0) (pa_int pa_nil))) pe_int (nomark _))
        (pss_one (ps_for PassesOwn.never rfl (pi_range2 rfl mRange (pa_int (pa_cons (pv 1) pa_nil))) (pg_name (i := 4) scWeb.nd rfl (Or.inl rfl))
          (pss_one (ps_dput hu (pv 3) (pe_tup (pa_cons (pe_call GD hr rfl mD FD.kp bD .nil pass0 (pa_cons (pv 0) (pa_cons (pv 4) pa_nil))) (pa_cons (pv 4) pa_nil)))
            (pe_ix ix_list (pv 2) (pe_call GD hr rfl mD FD.kp bD .nil pass0 (pa_cons (pv 0) (pa_int pa_nil))) (fun _ _ => rfl)) rfl)))) pss_nil)
      (pss_cons (ps_for PassesOwn.never rfl (pi_range1 rfl mRange (pa_cons (pe_call GD hr rfl mD FD.kp bD .nil pass0 (pa_cons (pv 0) (pa_cons (pe_op op_add (pe_op op_add pe_int (pv 1)) (pe_op op_fdiv (pv 1) pe_int)) pa_nil))) pa_nil)) (pg_name (i := 5) scWeb.nd rfl (Or.inl rfl))
          (pss_cons (ps_set (i := 6) scWeb.nd rfl (Or.inl rfl) (pe_call GD hr rfl mD FD.kp bD .nil pass0 (pa_cons (pv 0) (pa_cons (pv 1) pa_nil))))
          (pss_cons (ps_set (i := 4) scWeb.nd rfl (Or.inl rfl) (pe_call GD hr rfl mD FD.kp bD .nil pass0 (pa_cons (pv 0) (pa_cons (pv 1) pa_nil))))
          (pss_one (ps_if (pt_cmpR op_lt (pv 6) (pv 4) (nomark _)) (pss_one (ps_dput hu (pv 3) (pe_tup (pa_cons (pv 6) (pa_cons (pv 4) pa_nil)))
            (pe_ix ix_list (pv 2) (pe_call GD hr rfl mD FD.kp bD .nil pass0 (pa_cons (pv 0) (pa_int pa_nil))) (fun _ _ => rfl)) rfl)) pss_nil)))))
      (pss_one (ps_ret (pe_tup (pa_cons (pv 1) (pa_cons (pe_callTy call_tuple_of (by rfl) mTuple (by decide +kernel) (pa_cons
        (pe_comp (own := ["_law_pair"]) (cn := ["_law_joined"]) (ci := [3]) rfl (csc rfl rfl) ⟨rfl, rfl, rfl, trivial⟩ rfl
          (pi_list (pe_callB (call_sortedD rfl) (by rfl) mSorted (by decide +kernel) (pa_cons (pv 3) pa_nil))) (fun _ _ _ _ => pg_name (i := 0) (nd_of rfl) rfl (Or.inl rfl)) (fun _ _ _ _ => pts_nil)
          (fun _ _ _ _ => pe_tup (pa_cons (pe_ix ix_tupC (pv 0) pe_int (fun _ _ => rfl)) (pa_cons (pe_ix ix_tupC (pv 0) pe_int (fun _ _ => rfl)) (pa_cons (pe_dget hu (pv 1) (pv 0) (fun _ _ => rfl)) pa_nil))))) pa_nil)) pa_nil)))))))), ?_⟩
    -- longs
    intro a1 e1 a2 e2 a3 e3 a4 e4
    refine ⟨by show 4 ≤ sizeLine; decide, fun al el => ?_⟩
    have T5 := ((((T.laid (o := .lst [.int 1, .int 1, .int 1]) e1).laid (o := .lst [.int 1, .int 2, .int 1]) e2).laid (o := .lst [.int 1, .int 2, .int 3]) e3).laid (o := .lst [.int 5, .int 99, .int 7]) e4).laid (o := .lst [.ref a1, .ref a2, .ref a3, .ref a4]) el
    refine ⟨_, rfl, t, N, 4, rfl, T5, by omega, by decide, by decide, fun r H1 h0 h1 T1 he1 => ?_⟩
    have nel : al ≠ t := ((((T.laid (o := .lst [.int 1, .int 1, .int 1]) e1).laid (o := .lst [.int 1, .int 2, .int 1]) e2).laid (o := .lst [.int 1, .int 2, .int 3]) e3).laid (o := .lst [.int 5, .int 99, .int 7]) e4).ne el
    obtain ⟨la, l0, l1, l2, hat, hla, hb, nla⟩ : ∃ (la : Addr) (l0 l1 l2 : Int), atI [V.ref a1, V.ref a2, V.ref a3, V.ref a4] r = some (.ref la) ∧ H1 la = some (.lst [.int l0, .int l1, .int l2]) ∧ (∀ l ∈ [l0, l1, l2], 1 ≤ l ∧ l ≤ 99) ∧ la ≠ t := by
      have n1 : a1 ≠ t := T.ne e1
      have n2 : a2 ≠ t := (T.laid (o := .lst [.int 1, .int 1, .int 1]) e1).ne e2
      have n3 : a3 ≠ t := ((T.laid (o := .lst [.int 1, .int 1, .int 1]) e1).laid (o := .lst [.int 1, .int 2, .int 1]) e2).ne e3
      have n4 : a4 ≠ t := (((T.laid (o := .lst [.int 1, .int 1, .int 1]) e1).laid (o := .lst [.int 1, .int 2, .int 1]) e2).laid (o := .lst [.int 1, .int 2, .int 3]) e3).ne e4
      have g1 : H1 a1 = some (.lst [.int 1, .int 1, .int 1]) := by rw [he1 a1 n1]; exact same_laid el _ _ (same_laid e4 _ _ (same_laid e3 _ _ (same_laid e2 _ _ upd_same)))
      have g2 : H1 a2 = some (.lst [.int 1, .int 2, .int 1]) := by rw [he1 a2 n2]; exact same_laid el _ _ (same_laid e4 _ _ (same_laid e3 _ _ upd_same))
      have g3 : H1 a3 = some (.lst [.int 1, .int 2, .int 3]) := by rw [he1 a3 n3]; exact same_laid el _ _ (same_laid e4 _ _ upd_same)
      have g4 : H1 a4 = some (.lst [.int 5, .int 99, .int 7]) := by rw [he1 a4 n4]; exact same_laid el _ _ upd_same
      have hr4 : r = 0 ∨ r = 1 ∨ r = 2 ∨ r = 3 := by omega
      rcases hr4 with rfl | rfl | rfl | rfl
      · exact ⟨a1, 1, 1, 1, rfl, g1, by decide, n1⟩
      · exact ⟨a2, 1, 2, 1, rfl, g2, by decide, n2⟩
      · exact ⟨a3, 1, 2, 3, rfl, g3, by decide, n3⟩
      · exact ⟨a4, 5, 99, 7, rfl, g4, by decide, n4⟩
    refine ⟨al, _, _, _, rfl, rfl, SqL.of (by rw [he1 al nel]; exact upd_same), hat, ?_⟩
    have sm1 : Sm t H H1 := fun b o nb e => by
      rw [he1 b nb]
      exact same_laid el _ _ (same_laid e4 _ _ (same_laid e3 _ _ (same_laid e2 _ _ (same_laid e1 _ _ e))))
    -- joined = {}
    intro d hd
    have nd : d ≠ t := T1.ne hd
    have hd0 : H d = none := by
      cases q : H d with
      | none => rfl
      | some o => have := sm1 d o nd q; rw [hd] at this; cases this
    have W0 : WI H t d la n (N + 1) 0 (upd H1 d (.dT [])) := ⟨sm1.chg hd0, T1.laid hd, ⟨[], upd_same, JD.nil n, Nat.le_refl _⟩, ⟨l0, l1, l2, by rw [upd_ne (ne_of_none hla hd)]; exact hla, hb⟩⟩
    -- if draw > 0
    refine ⟨_, rfl, t, N + 1, 3, rfl, W0.tp, by omega, by decide, by decide, fun r1 H2 _ _ T2 he2 => ?_⟩
    have W2 := W0.draw nd nla T2 he2
    refine ⟨_, _, rfl, rfl, _, rfl, ?_⟩
    refine ite2 (fun _ => ?a) (fun _ => ?b)
    case' a =>
      refine ⟨_, rfl, 1, n, rfl, ⟨by decide, by decide, by omega, by omega⟩, for_range (lo := 1) (n := (n - 1).toNat) (fun i σ H3 => ∃ vb : Option V, σ = [some (.ref t), some (.int n), some (.ref la), some (.ref d), vb, none, none] ∧ WI H t d la n (N + 2 + 2 * i) i H3) ⟨none, rfl, W2⟩ ?turn ?after⟩
      case turn =>
        rintro i σ H3 hi ⟨vb, rfl, W⟩
        obtain ⟨m0, m1, m2, hm, hmb⟩ := W.lg
        refine ⟨_, rfl, _, rfl, t, N + 2 + 2 * i, 3, rfl, W.tp, by omega, by decide, by decide, fun r3 H4 g0 g1 T4 he4 => ?_⟩
        have W4 := W.draw nd nla T4 he4
        obtain ⟨lg, hlg, hg1, hg2⟩ := at3 hmb g0 g1
        refine ⟨la, _, _, _, rfl, rfl, SqL.of (by rw [he4 la nla]; exact hm), hlg, ?_⟩
        refine ⟨_, rfl, _, rfl, _, rfl, t, N + 2 + 2 * i + 1, 1 + i, rfl, W4.tp, by omega, by omega, by omega, fun r5 H5 q0 q1 T5 he5 => ?_⟩
        have W5 := W4.draw nd nla T5 he5
        refine ⟨_, rfl, by show 2 ≤ sizeLine; decide, fun p hp => ?_⟩
        have W6 := W5.laid (o := .tup [.int r5, .int (1 + i)]) hp
        obtain ⟨kvs, hk, J, hkl⟩ := W6.dc
        refine ⟨d, _, rfl, DPut.t (k := [Sum.inl r5, Sum.inl (1 + (i : Int))]) hk upd_same (small_line (by omega)), ?_⟩
        exact ⟨_, rfl, (W6.put hd0 hk q0 q1 (by omega) hg1 hg2).up (by omega) (by omega)⟩
      case' after =>
        rintro σ H3 ⟨vb, rfl, W⟩
        have W3 : WI H t d la n (N + 50) 23 H3 := W.up (by omega) (by omega)
    case' b =>
      have W3 : WI H t d la n (N + 50) 23 H2 := W2.up (by omega) (by omega)
    all_goals
      refine ⟨_, rfl, _, rfl, _, _, rfl, rfl, _, rfl, _, _, rfl, rfl, ⟨by decide, by decide⟩, _, _, rfl, rfl, t, N + 50, _, rfl, W3.tp, by omega, by omega, by omega, fun r4 H4 p0 p1 T4 he4 => ?_⟩
      have W4 := W3.draw nd nla T4 he4
      refine ⟨r4, rfl, by omega, by omega, for_range (lo := 0) (n := r4.toNat) (fun i σ H5 => ∃ vb vk va : Option V, σ = [some (.ref t), some (.int n), some (.ref la), some (.ref d), vb, vk, va] ∧ WI H t d la n (N + 51 + 3 * i) (23 + i) H5) ⟨_, _, _, rfl, W4⟩ ?turn2 ?after2⟩
      case turn2 =>
        rintro i σ H5 hi ⟨vb, vk, va, rfl, W⟩
        refine ⟨_, rfl, _, rfl, t, N + 51 + 3 * i, n, rfl, W.tp, by omega, by omega, by omega, fun a H6 a0 a1 T6 he6 => ?_⟩
        have W6 := W.draw nd nla T6 he6
        refine ⟨_, rfl, _, rfl, t, N + 51 + 3 * i + 1, n, rfl, W6.tp, by omega, by omega, by omega, fun b H7 b0 b1 T7 he7 => ?_⟩
        have W7 := W6.draw nd nla T7 he7
        refine ⟨_, rfl, _, rfl, _, _, rfl, rfl, _, rfl, ?_⟩
        refine ite2 (fun hc => ?_) (fun hc => ?_)
        · have hab : a < b := of_decide_eq_true hc
          obtain ⟨m0, m1, m2, hm, hmb⟩ := W7.lg
          refine ⟨_, rfl, _, rfl, t, N + 51 + 3 * i + 1 + 1, 3, rfl, W7.tp, by omega, by decide, by decide, fun r3 H8 g0 g1 T8 he8 => ?_⟩
          have W8 := W7.draw nd nla T8 he8
          obtain ⟨lg, hlg, hg1, hg2⟩ := at3 hmb g0 g1
          refine ⟨la, _, _, _, rfl, rfl, SqL.of (by rw [he8 la nla]; exact hm), hlg, ?_⟩
          refine ⟨_, rfl, _, rfl, _, rfl, by show 2 ≤ sizeLine; decide, fun p hp => ?_⟩
          have W9 := W8.laid (o := .tup [.int a, .int b]) hp
          obtain ⟨kvs, hk, J, hkl⟩ := W9.dc
          refine ⟨d, _, rfl, DPut.t (k := [Sum.inl a, Sum.inl b]) hk upd_same (small_line (by omega)), ?_⟩
          exact ⟨_, _, _, rfl, (W9.put hd0 hk a0 hab b1 hg1 hg2).up (by omega) (by omega)⟩
        · exact ⟨_, _, _, rfl, W7.up (by omega) (by omega)⟩
      case after2 =>
        rintro σ H5 ⟨vb, vk, va, rfl, W⟩
        obtain ⟨kvs, hk, J, hkl⟩ := W.dc
        have hk64 : kvs.length < 64 := by omega
        -- (n, tuple([.. for pair in sorted(joined)]))
        refine ⟨_, rfl, _, rfl, d, kvs, keysI kvs, rfl, hk, J.keys, J.ne, by rw [keysI, List.length_map]; exact hk64, fun l zs ms hl TA hp _ => ?_⟩
        refine ⟨l, rfl, ⟨_, SqL.of upd_same⟩, [.ref d], rfl, fun D hD => ?_⟩
        have hlz := TA.length
        have hlm : ms.length = kvs.length := by rw [hp.length_eq, keysI, List.length_map]
        have nlD : l ≠ D := fun e => by rw [← e, upd_same] at hD; cases hD
        have hk1 : (upd H5 l (.lst zs)) d = some (.dT kvs) := same_laid hl _ _ hk
        have hD5 : H5 D = none := by rw [upd_ne nlD.symm] at hD; exact hD
        refine comp_list (a := l) (xs := zs) (fun i ys H6 => ∃ ts : List T3, ts.length = i ∧ ts.map (fun t : T3 => [t.1, t.2.1]) = ms.take i ∧ (∀ t ∈ ts, 0 ≤ t.1 ∧ t.1 < t.2.1 ∧ t.2.1 < n ∧ 1 ≤ t.2.2 ∧ t.2.2 ≤ 99) ∧ H6 D = some (.lst ys) ∧ TupsAre H6 ys (ts.map tl) ∧ Same (upd H5 l (.lst zs)) H6)
          ⟨[], rfl, rfl, fun _ h => by simp at h, upd_same, trivial, same_laid hD⟩ (fun i ys H6 h => ?_) (fun i ys H6 h => ?_) (fun i x ys H6 hx h => ?_) (fun ys H6 h => ?_)
        · obtain ⟨_, _, _, _, _, _, s6⟩ := h
          exact SqL.of (s6 _ _ upd_same)
        · obtain ⟨ts, e1, e2, _, _, T6, _⟩ := h
          have e3 := T6.length
          rw [List.length_map] at e3
          have e4 := congrArg List.length e2
          rw [List.length_map, List.length_take] at e4
          exact small_line (by omega)
        · obtain ⟨ts, e1, e2, hts, hD6, T6, s6⟩ := h
          obtain ⟨pa, kx, ex, hkx, hpa, _⟩ := TA.get hx
          subst ex
          have hpa6 : H6 pa = some (.tup (kx.map V.int)) := s6 _ _ (same_laid hl _ _ hpa)
          obtain ⟨a, b, lg, ek, hv, a0, ab, bn, lg1, lg2⟩ := J.val (hp.mem_iff.mp (List.mem_of_getElem? hkx))
          subst ek
          refine ⟨⟨rfl, rfl⟩, ?_⟩
          refine tyes ?_
          refine ⟨_, rfl, pa, _, _, _, rfl, rfl, SqT.of hpa6, rfl, _, rfl, pa, _, _, _, rfl, rfl, SqT.of hpa6, rfl, _, rfl, _, rfl, d, _, rfl, hv ▸ DGet.t (k := [Sum.inl a, Sum.inl b]) (s6 _ _ hk1) hpa6, by show 3 ≤ sizeLine; decide, fun p hp6 => ?_⟩
          have nDp : D ≠ p := ne_of_none hD6 hp6
          refine ⟨by rw [upd_ne nDp]; exact hD6, ts ++ [(a, b, lg)], by rw [List.length_append, e1]; rfl, ?_, ?_, upd_same, ?_, ?_⟩
          · rw [List.map_append, e2, List.take_add_one, hkx]; rfl
          · intro t ht
            rcases List.mem_append.mp ht with q | q
            · exact hts t q
            · rw [List.mem_singleton.mp q]; exact ⟨a0, ab, bn, lg1, lg2⟩
          · rw [List.map_append]
            refine (T6.keep fun c xs e => ?_).snoc ⟨p, rfl, by rw [upd_ne nDp.symm, upd_same]; rfl, by simp [tl]⟩
            rw [upd_ne (ne_of e hD6 (by intro z; cases z)), upd_ne (ne_of_none e hp6)]
            exact e
          · exact same_chg (s6.trans (same_laid hp6)) hD
        · obtain ⟨ts, e1, e2, hts, hD6, T6, s6⟩ := h
          refine ⟨D, ys, rfl, .inl ⟨SqL.of hD6, fun ta hta => ?_⟩⟩
          refine ⟨by show 2 ≤ sizeLine; decide, fun wa hwa => ?_⟩
          rw [hlz, List.take_of_length_le (Nat.le_refl _)] at e2
          have G : GW n ts := ties_of J hp hk64 hn1 hn2 e2 hts
          have nwt : wa ≠ ta := fun e => by rw [e, upd_same] at hwa; cases hwa
          have h6wa : H6 wa = none := by rw [upd_ne nwt] at hwa; exact hwa
          have s7 : Same H6 (upd (upd H6 ta (.tup ys)) wa (.tup [.int n, .ref ta])) := same_chg (same_laid hta) h6wa
          have T7 : TapeAt (upd (upd H6 ta (.tup ys)) wa (.tup [.int n, .ref ta])) t (N + 200) := ((W.tp.mono (by omega)).keep ((same_laid hl).trans (s6.trans s7)))
          have nwa : wa ≠ t := ((W.tp.keep ((same_laid hl).trans s6)).ne h6wa)
          have sm7 : Sm t H (upd (upd H6 ta (.tup ys)) wa (.tup [.int n, .ref ta])) := W.sm.trans (Sm.of ((same_laid hl).trans (s6.trans s7)))
          refine k wa ts _ ?_ ⟨ta, ys, upd_same, by rw [upd_ne nwt.symm, upd_same], T6.keep fun c xs e => s7 _ _ e, G⟩ T7 sm7
          cases q : H wa with
          | none => rfl
          | some o =>
            have := (W.sm.trans (Sm.of ((same_laid hl).trans s6))) wa o nwa q
            rw [h6wa] at this; cases this
end
/-! ### ties_at, long_of, beside, is_whole -/
def spTies : Sp := fun vs H Q _ => ∃ (wa : Addr) (n : Int) (ts : List T3) (p : Int), vs = [.ref wa, .int p] ∧ WebAt H wa n ts ∧
  ∀ (l : Addr) (zs : List V) (ms : List (List Int)) (H' : Hp), Same H H' → H l = none → H' l = some (.lst zs) → TupsAre H' zs ms → ms.Perm (fd p ts) → Rises ms → Q (.ref l) H'
section
variable {P : Program} {w : World} {K : PySem.W.Frag} {mg : Str → Option Value} {base : Heap}
theorem scTies : FnScope ["web", "place", "found", "a", "b", "long"] ["web", "place"] (defScope sTies) := ⟨rfl, rfl, rfl, by decide +kernel, rfl, by decide +kernel, by decide +kernel⟩
theorem ok_ties {f : Addr} {fd' : FuncData} (F : Fun K "ties_at" "ties_at" sTies f fd') (mSorted : mg "sorted" = none) : FnOk P w K mg base CX0 1 f fd' ["web", "place"] spTies := by
  refine F.ok scTies (fun vs H Q E h => ?_) (fun cdv A outer s H vs Q E hr h => ?_)
  · obtain ⟨wa, n, ts, p, rfl, _⟩ := h
    rfl
  · obtain ⟨wa, n, ts, p, rfl, ⟨ta, tys, hwa, hta, TA, G⟩, k⟩ := h
    refine ⟨_, pss_cons (ps_set (i := 2) scTies.nd rfl (Or.inl rfl) (pe_lst pa_nil))
      (pss_cons (ps_for PassesOwn.never rfl (pi_tup (pe_ix ix_tup (pv 0) pe_int (fun _ _ => rfl))) (pg_tup rfl (pgs_cons (pg_name (i := 3) scTies.nd rfl (Or.inl rfl)) (pgs_cons (pg_name (i := 4) scTies.nd rfl (Or.inl rfl)) (pgs_cons (pg_name (i := 5) scTies.nd rfl (Or.inl rfl)) pgs_nil))))
        (pss_cons (ps_if (pt_cmpR op_eq (pv 3) (pv 1) (nomark _)) (pss_one (ps_expr (pe_bm PySem.F.plainAttrs_list PySem.F.slot_list_append PySem.F.type_list_append mt_append (pv 2) (pa_cons (pe_tup (pa_cons (pv 4) (pa_cons (pv 5) pa_nil))) pa_nil)))) pss_nil)
        (pss_one (ps_if (pt_cmpR op_eq (pv 4) (pv 1) (nomark _)) (pss_one (ps_expr (pe_bm PySem.F.plainAttrs_list PySem.F.slot_list_append PySem.F.type_list_append mt_append (pv 2) (pa_cons (pe_tup (pa_cons (pv 3) (pa_cons (pv 5) pa_nil))) pa_nil)))) pss_nil))))
      (pss_one (ps_ret (pe_callB call_sorted (by rfl) mSorted (by decide +kernel) (pa_cons (pv 2) pa_nil))))), ?_⟩
    -- found = []
    refine ⟨Nat.zero_le _, fun l hl => ?_⟩
    have hwl : wa ≠ l := ne_of_none hwa hl
    have htl : ta ≠ l := ne_of_none hta hl
    have hlt : tys.length = ts.length := by rw [TA.length, List.length_map]
    refine ⟨_, rfl, wa, _, _, _, rfl, rfl, SqT.of (by rw [upd_ne hwl]; exact hwa), rfl, ta, rfl, ⟨_, SqT.of (by rw [upd_ne htl]; exact hta)⟩, for_tup (K := K) (a := ta) (xs := tys)
      (fun i σ H2 => ∃ (va vb vl : Option V) (xs : List V), σ = [some (.ref wa), some (.int p), some (.ref l), va, vb, vl] ∧ Same H H2 ∧ H2 l = some (.lst xs) ∧ TupsAre H2 xs (fd p (ts.take i)))
      ⟨none, none, none, [], rfl, same_laid hl, upd_same, trivial⟩ (fun i σ H2 _ ⟨_, _, _, _, _, s2, _⟩ => SqT.of (s2 _ _ hta)) ?turn ?after⟩
    case turn =>
      rintro i y σ H2 hi ⟨va, vb, vl, xs, rfl, s2, hl2, T2⟩
      obtain ⟨ya, ky, rfl, hky, hya, _⟩ := TA.get hi
      rw [List.getElem?_map] at hky
      obtain ⟨⟨a, b, c⟩, hti, rfl⟩ : ∃ t : T3, ts[i]? = some t ∧ tl t = ky := by
        cases e : ts[i]? with
        | none => rw [e] at hky; cases hky
        | some t => rw [e] at hky; exact ⟨t, rfl, Option.some.inj hky⟩
      have hil : i < ts.length := (List.getElem?_eq_some_iff.mp hti).1
      have hlen : ∀ {xs' : List V} {H3 : Hp}, TupsAre H3 xs' (fd p (ts.take i)) → xs'.length < sizeLine := fun T => by
        have e1 := T.length
        have e2 := fd_len (n := n) p (ts := ts.take i) fun t ht => (G.rng t (List.mem_of_mem_take ht)).2.1
        rw [List.length_take] at e2
        exact small_line (by have := G.len; omega)
      have hfd : fd p (ts.take (i + 1)) = fd p (ts.take i) ++ ((if a = p then [[b, c]] else []) ++ (if b = p then [[a, c]] else [])) := by
        rw [List.take_add_one, hti, fd_append]
        show _ ++ ((if a = p then [[b, c]] else []) ++ (if b = p then [[a, c]] else []) ++ []) = _
        rw [List.append_nil]
      have hab : a < b := (G.rng _ (List.mem_of_getElem? hti)).2.1
      refine ⟨ya, _, rfl, SqT.of (s2 _ _ hya), rfl, _, _, rfl, _, _, rfl, _, _, rfl, rfl, ?_⟩
      -- what an append does
      have app : ∀ {x : Int}, ∀ q, H2 q = none → ∃ xs', (upd (upd H2 q (.tup [.int x, .int c])) l (.lst (xs ++ [.ref q]))) l = some (.lst xs') ∧ Same H (upd (upd H2 q (.tup [.int x, .int c])) l (.lst (xs ++ [.ref q]))) ∧ TupsAre (upd (upd H2 q (.tup [.int x, .int c])) l (.lst (xs ++ [.ref q]))) xs' (fd p (ts.take i) ++ [[x, c]]) := by
        intro x q hq
        have nlq : l ≠ q := ne_of_none hl2 hq
        refine ⟨_, upd_same, same_chg (s2.trans (same_laid hq)) hl, (T2.keep fun e ys he => ?_).snoc ⟨q, rfl, by rw [upd_ne nlq.symm, upd_same]; rfl, by simp⟩⟩
        rw [upd_ne (ne_of he hl2 (by intro z; cases z)), upd_ne (ne_of_none he hq)]
        exact he
      refine ⟨_, rfl, _, rfl, rfl, _, rfl, ?_⟩
      refine ite2 (fun h1 => ?_) (fun h1 => ?_)
      · have e1 : a = p := by have := of_decide_eq_true h1; injection this
        have n2 : ¬ b = p := by omega
        refine ⟨_, rfl, .inl ⟨rfl, _, SqL.of hl2⟩, _, rfl, _, rfl, by show 2 ≤ sizeLine; decide, fun q hq => ?_⟩
        have nlq : l ≠ q := ne_of_none hl2 hq
        refine ⟨l, _, _, rfl, rfl, by rw [upd_ne nlq]; exact hl2, hlen T2, ?_⟩
        refine ⟨_, rfl, _, rfl, rfl, _, rfl, ?_⟩
        rw [show decide (V.int b = V.int p) = false from decide_eq_false fun e => n2 (by injection e)]
        refine iteF ?_
        obtain ⟨xs', g1, g2, g3⟩ := app (x := b) q hq
        refine ⟨_, _, _, xs', rfl, g2, g1, ?_⟩
        rw [hfd, if_pos e1, if_neg n2]
        exact g3
      · have n1 : ¬ a = p := fun e => by
          have := h1
          rw [e] at this
          exact this (decide_eq_true rfl)
        refine ⟨_, rfl, _, rfl, rfl, _, rfl, ?_⟩
        refine ite2 (fun h2 => ?_) (fun h2 => ?_)
        · have e2 : b = p := by have := of_decide_eq_true h2; injection this
          refine ⟨_, rfl, .inl ⟨rfl, _, SqL.of hl2⟩, _, rfl, _, rfl, by show 2 ≤ sizeLine; decide, fun q hq => ?_⟩
          have nlq : l ≠ q := ne_of_none hl2 hq
          refine ⟨l, _, _, rfl, rfl, by rw [upd_ne nlq]; exact hl2, hlen T2, ?_⟩
          obtain ⟨xs', g1, g2, g3⟩ := app (x := a) q hq
          refine ⟨_, _, _, xs', rfl, g2, g1, ?_⟩
          rw [hfd, if_neg n1, if_pos e2]
          exact g3
        · have n2 : ¬ b = p := fun e => by
            have := h2
            rw [e] at this
            exact this (decide_eq_true rfl)
          refine ⟨_, _, _, xs, rfl, s2, hl2, ?_⟩
          rw [hfd, if_neg n1, if_neg n2, List.append_nil, List.append_nil]
          exact T2
    case after =>
      rintro σ H2 ⟨va, vb, vl, xs, rfl, s2, hl2, T2⟩
      rw [hlt, List.take_of_length_le (Nat.le_refl _)] at T2
      have e2 := fd_len (n := n) p (ts := ts) fun t ht => (G.rng t ht).2.1
      refine ⟨_, rfl, l, xs, fd p ts, rfl, SqL.of hl2, T2, by have := G.len; omega, fun l' zs ms hl' T3 hp hrs => ?_⟩
      have nll : l' ≠ l := fun e => by rw [e, hl2] at hl'; cases hl'
      have hl0 : H l' = none := by
        cases q : H l' with
        | none => rfl
        | some o => have := s2 l' o q; rw [hl'] at this; cases this
      exact k l' zs ms _ (s2.trans (same_laid hl')) hl0 upd_same (T3.keep fun e ys he => same_laid hl' _ _ he) hp hrs
end
/-- the long that is told: by what is found -/
def spLong : Sp := fun vs H Q _ => ∃ (wa : Addr) (n : Int) (ts : List T3) (one other : Int), vs = [.ref wa, .int one, .int other] ∧ WebAt H wa n ts ∧
  ∀ (r : V) (H' : Hp), Same H H' → ((∃ l, Adj ts one other l ∧ r = .int l) ∨ ((∀ l, ¬ Adj ts one other l) ∧ r = .non)) → Q r H'
def spBeside : Sp := fun vs H Q _ => ∃ (wa : Addr) (n : Int) (ts : List T3) (p : Int), vs = [.ref wa, .int p] ∧ WebAt H wa n ts ∧
  ∀ (l : Addr) (hs : List Int) (H' : Hp), Same H H' → H l = none → H' l = some (.tup (hs.map V.int)) → hs.Pairwise (· < ·) → (∀ y, y ∈ hs ↔ ∃ k, Adj ts p y k) → Q (.ref l) H'
def spWhole : Sp := fun vs H Q _ => ∃ (wa : Addr) (n : Int) (ts : List T3), vs = [.ref wa] ∧ WebAt H wa n ts ∧
  ∀ (met : List Int) (H' : Hp), Same H H' → met.Nodup → 0 ∈ met → (∀ x ∈ met, ∀ y k, Adj ts x y k → y ∈ met) → (∀ x ∈ met, Rch ts x) → Q (.bl (decide ((met.length : Int) = n))) H'
/-- rising pairs whose heads differ have rising heads -/
theorem heads_rise {ms : List (List Int)} (h : Rises ms) (hk : ∀ k ∈ ms, ∃ y l, k = [y, l]) (hn : (ms.map hd).Nodup) : (ms.map hd).Pairwise (· < ·) := by
  rw [List.pairwise_map]
  rw [List.Nodup, List.pairwise_map] at hn
  have both : ms.Pairwise fun a b => HT.lexLt b a = false ∧ hd a ≠ hd b := by
    rw [List.pairwise_iff_getElem]
    intro i j hi hj hij
    exact ⟨List.pairwise_iff_getElem.mp h i j hi hj hij, List.pairwise_iff_getElem.mp hn i j hi hj hij⟩
  refine both.imp_of_mem fun {a b} ha hb hab => ?_
  obtain ⟨y, l, rfl⟩ := hk a ha
  obtain ⟨z, m, rfl⟩ := hk b hb
  obtain ⟨h1, h2⟩ := hab
  have h2' : y ≠ z := h2
  rw [HT.lexLt_cons, if_neg (Ne.symm h2')] at h1
  have := of_decide_eq_false h1
  show y < z
  omega
section
variable {P : Program} {w : World} {K : PySem.W.Frag} {mg : Str → Option Value} {base : Heap}
theorem scLong : FnScope ["web", "one", "other", "place", "long"] ["web", "one", "other"] (defScope sLong) := ⟨rfl, rfl, rfl, by decide +kernel, rfl, by decide +kernel, by decide +kernel⟩
theorem ok_long {f fT : Addr} {fd' fdT : FuncData} (F : Fun K "long_of" "long_of" sLong f fd') (FT : Fun K "ties_at" "ties_at" sTies fT fdT) (bT : Binds K fdT ["web", "place"] []) (mT : mg "ties_at" = some (.ref fT)) (mSorted : mg "sorted" = none) :
    FnOk P w K mg base CX0 2 f fd' ["web", "one", "other"] spLong := by
  have GT : FnOk P w K mg base CX0 1 fT fdT ["web", "place"] spTies := ok_ties FT mSorted
  refine F.ok scLong (fun vs H Q E h => ?_) (fun cdv A outer s H vs Q E hr h => ?_)
  · obtain ⟨wa, n, ts, one, other, rfl, _⟩ := h
    rfl
  · obtain ⟨wa, n, ts, one, other, rfl, W, k⟩ := h
    refine ⟨_, pss_cons (ps_for PassesOwn.never rfl (pi_list (pe_call GT hr rfl mT FT.kp bT .nil pass0 (pa_cons (pv 0) (pa_cons (pv 1) pa_nil)))) (pg_tup rfl (pgs_cons (pg_name (i := 3) scLong.nd rfl (Or.inl rfl)) (pgs_cons (pg_name (i := 4) scLong.nd rfl (Or.inl rfl)) pgs_nil)))
        (pss_one (ps_if (pt_cmpR op_eq (pv 3) (pv 2) (nomark _)) (pss_one (ps_ret (pv 4))) pss_nil)))
      (pss_one (ps_ret pe_non)), ?_⟩
    refine ⟨_, rfl, _, rfl, wa, n, ts, one, rfl, W, fun l zs ms H1 s1 hl0 hl1 T1 hp _ => ?_⟩
    refine ⟨l, rfl, ⟨_, SqL.of hl1⟩, for_list (K := K) (a := l) (xs := zs) (fun i σ H2 => ∃ va vb : Option V, σ = [some (.ref wa), some (.int one), some (.int other), va, vb] ∧ H2 = H1 ∧ ∀ j k, j < i → ms[j]? = some k → hd k ≠ other)
      ⟨none, none, rfl, rfl, fun j _ h => by omega⟩ (fun i σ H2 _ ⟨_, _, _, e, _⟩ => e ▸ SqL.of hl1) ?turn ?after⟩
    case turn =>
      rintro i y σ H2 hi ⟨va, vb, rfl, rfl, hno⟩
      obtain ⟨ya, ky, rfl, hky, hya, _⟩ := T1.get hi
      have hm : ky ∈ fd one ts := hp.mem_iff.mp (List.mem_of_getElem? hky)
      obtain ⟨z, c, rfl, ha⟩ := mem_fd.mp hm
      refine ⟨ya, _, rfl, SqT.of hya, rfl, _, _, rfl, _, _, rfl, rfl, ?_⟩
      refine ⟨_, rfl, _, rfl, rfl, _, rfl, ?_⟩
      refine ite2 (fun h1 => ?_) (fun h1 => ?_)
      · have e1 : z = other := by have := of_decide_eq_true h1; injection this
        subst e1
        exact ⟨_, rfl, k _ _ s1 (.inl ⟨c, ha, rfl⟩)⟩
      · have n1 : z ≠ other := fun e => by
          have := h1
          rw [e] at this
          exact this (decide_eq_true rfl)
        refine ⟨_, _, rfl, rfl, fun j kj hj hkj => ?_⟩
        by_cases hji : j < i
        · exact hno j kj hji hkj
        · have e : j = i := by omega
          subst e
          rw [hky] at hkj
          cases hkj
          exact n1
    case after =>
      rintro σ H2 ⟨va, vb, rfl, rfl, hno⟩
      refine k _ _ s1 (.inr ⟨fun c ha => ?_, rfl⟩)
      have hm : [other, c] ∈ ms := hp.mem_iff.mpr (mem_fd.mpr ⟨other, c, rfl, ha⟩)
      obtain ⟨j, hj, e⟩ := List.getElem_of_mem hm
      exact hno j _ (by have := T1.length; omega) (by rw [List.getElem?_eq_getElem hj, e]) rfl
theorem scBeside : FnScope ["web", "place"] ["web", "place"] (defScope sBeside) := ⟨rfl, rfl, rfl, by decide +kernel, rfl, by decide +kernel, by decide +kernel⟩
theorem ok_beside {f fT : Addr} {fd' fdT : FuncData} (F : Fun K "beside" "beside" sBeside f fd') (FT : Fun K "ties_at" "ties_at" sTies fT fdT) (bT : Binds K fdT ["web", "place"] []) (mT : mg "ties_at" = some (.ref fT)) (mSorted : mg "sorted" = none) (mTuple : mg "tuple" = none) :
    FnOk P w K mg base CX0 2 f fd' ["web", "place"] spBeside := by
  have GT : FnOk P w K mg base CX0 1 fT fdT ["web", "place"] spTies := ok_ties FT mSorted
  refine F.ok scBeside (fun vs H Q E h => ?_) (fun cdv A outer s H vs Q E hr h => ?_)
  · obtain ⟨wa, n, ts, p, rfl, _⟩ := h
    rfl
  · obtain ⟨wa, n, ts, p, rfl, W, k⟩ := h
    have G : GW n ts := by obtain ⟨_, _, _, _, _, g⟩ := W; exact g
    refine ⟨_, pss_one (ps_ret (pe_callTy call_tuple_of (by rfl) mTuple (by decide +kernel) (pa_cons
      (pe_comp (own := ["other", "long"]) (cn := []) (ci := []) rfl (csc rfl rfl) trivial rfl
        (pi_list (pe_call GT hr rfl mT FT.kp bT .nil pass0 (pa_cons (pv 0) (pa_cons (pv 1) pa_nil))))
        (fun _ _ _ _ => pg_tupC (n := 2) rfl (pgs_cons (pg_name (i := 0) (nd_of rfl) rfl (Or.inl rfl)) (pgs_cons (pg_name (i := 1) (nd_of rfl) rfl (Or.inl rfl)) pgs_nil)))
        (fun _ _ _ _ => pts_nil) (fun _ _ _ _ => pv 0)) pa_nil))), ?_⟩
    refine ⟨_, rfl, _, rfl, wa, n, ts, p, rfl, W, fun l zs ms H1 s1 hl0 hl1 T1 hp hrs => ?_⟩
    have hlz := T1.length
    have hlm : ms.length < 64 := by
      have e2 := fd_len (n := n) p (ts := ts) fun t ht => (G.rng t ht).2.1
      have := G.len
      rw [hp.length_eq]; omega
    refine ⟨l, rfl, ⟨_, SqL.of hl1⟩, [], rfl, fun D hD => ?_⟩
    have nlD : l ≠ D := ne_of_none hl1 hD
    refine comp_list (a := l) (xs := zs) (fun i ys H6 => ys = ((ms.take i).map hd).map V.int ∧ H6 = upd H1 D (.lst ys)) ⟨rfl, rfl⟩ (fun i ys H6 h => ?_) (fun i ys H6 h => ?_) (fun i x ys H6 hx h => ?_) (fun ys H6 h => ?_)
    · obtain ⟨_, rfl⟩ := h
      exact SqL.of (by rw [upd_ne nlD]; exact hl1)
    · obtain ⟨rfl, _⟩ := h
      rw [List.length_map, List.length_map, List.length_take]
      exact small_line (by omega)
    · obtain ⟨rfl, rfl⟩ := h
      obtain ⟨ya, ky, rfl, hky, hya, _⟩ := T1.get hx
      obtain ⟨z, c, rfl, ha⟩ := mem_fd.mp (hp.mem_iff.mp (List.mem_of_getElem? hky))
      refine ⟨ya, _, rfl, SqT.of (by rw [upd_ne (ne_of_none hya hD)]; exact hya), rfl, _, _, rfl, _, _, rfl, rfl, ⟨rfl, rfl⟩, ?_⟩
      refine tyes ?_
      refine ⟨_, rfl, upd_same, ?_, upd_upd⟩
      rw [List.take_add_one, hky]
      simp [hd]
    · obtain ⟨rfl, rfl⟩ := h
      refine ⟨D, _, rfl, .inl ⟨SqL.of upd_same, fun q hq => ?_⟩⟩
      rw [hlz, List.take_of_length_le (Nat.le_refl _)] at hq ⊢
      have nqD : q ≠ D := fun e => by rw [e, upd_same] at hq; cases hq
      have hq1 : H1 q = none := by rw [upd_ne nqD] at hq; exact hq
      have s2 : Same H (upd (upd H1 D (.lst ((ms.map hd).map V.int))) q (.tup ((ms.map hd).map V.int))) := s1.trans (same_chg (same_laid hD) hq1)
      have hk : ∀ k ∈ ms, ∃ y l, k = [y, l] := fun k hk => by
        obtain ⟨y, l, e, _⟩ := mem_fd.mp (hp.mem_iff.mp hk)
        exact ⟨y, l, e⟩
      refine k q (ms.map hd) _ s2 ?_ upd_same (heads_rise hrs hk ((hp.map hd).nodup_iff.mpr (fd_heads G p))) fun y => ?_
      · cases e : H q with
        | none => rfl
        | some o => have := s1 q o e; rw [hq1] at this; cases this
      · constructor
        · intro hy
          obtain ⟨k, hk, rfl⟩ := List.mem_map.mp hy
          obtain ⟨y, l, rfl, ha⟩ := mem_fd.mp (hp.mem_iff.mp hk)
          exact ⟨l, ha⟩
        · rintro ⟨l, ha⟩
          exact List.mem_map.mpr ⟨[y, l], hp.mem_iff.mpr (mem_fd.mpr ⟨y, l, rfl, ha⟩), rfl⟩
end
theorem ifT {c : Bool} {p q : Prop} (h : c = true) (hp : p) : (if c = true then p else q) := by rw [if_pos h]; exact hp
theorem ifF {c : Bool} {p q : Prop} (h : c = false) (hq : q) : (if c = true then p else q) := by rw [if_neg (by simp [h])]; exact hq
theorem eqV_int (a b : Int) : eqV (.int a) (.int b) = (a == b) := rfl
theorem inV_ints {z : Int} : ∀ {l : List Int}, inV (.int z) (l.map V.int) = decide (z ∈ l)
  | [] => rfl
  | x :: r => by
    show (eqV (.int x) (.int z) || inV (.int z) (r.map V.int)) = _
    rw [inV_ints (l := r), eqV_int]
    by_cases h : x = z
    · subst h; simp
    · have h' : (x == z) = false := by simpa using h
      rw [h', Bool.false_or]
      simp [Ne.symm h]
theorem flat_ints : ∀ (l : List Int), (l.map V.int).all flatV = true
  | [] => rfl
  | _ :: r => by rw [List.map_cons, List.all_cons, flat_ints r]; rfl
theorem dec_int' {i j : Int} : decide (V.int i = V.int j) = decide (i = j) := by
  by_cases h : i = j
  · subst h; simp
  · rw [decide_eq_false h, decide_eq_false fun e => h (by injection e)]
def spMet : Sp := fun vs H Q _ => ∃ (wa : Addr) (n : Int) (ts : List T3), vs = [.ref wa] ∧ WebAt H wa n ts ∧
  ∀ (la : Addr) (met : List Int) (H' : Hp), Same H H' → H' la = some (.lst (met.map V.int)) → met.Nodup → 0 ∈ met → (∀ x ∈ met, ∀ y k, Adj ts x y k → y ∈ met) → (∀ x ∈ met, Rch ts x) → Q (.ref la) H'
/-- what is met: no place twice, 0 among them, each come to -/
structure Mt (n : Int) (ts : List T3) (met : List Int) : Prop where
  nd : met.Nodup
  z : 0 ∈ met
  rc : ∀ x ∈ met, Rch ts x
  bd : ∀ x ∈ met, 0 ≤ x ∧ x < n
theorem Mt.start {n : Int} {ts : List T3} (g : GW n ts) : Mt n ts [0] :=
  ⟨by simp, by simp, fun x hx => by rw [List.mem_singleton.mp hx]; exact .z, fun x hx => by rw [List.mem_singleton.mp hx]; exact ⟨Int.le_refl _, by have := g.n1; omega⟩⟩
theorem Mt.more {n : Int} {ts : List T3} (g : GW n ts) {met : List Int} (h : Mt n ts met) {x y k : Int} (hx : x ∈ met) (ha : Adj ts x y k) (hy : ¬ y ∈ met) : Mt n ts (met ++ [y]) := by
  refine ⟨nd_snoc h.nd hy, List.mem_append_left _ h.z, fun z hz => ?_, fun z hz => ?_⟩
  · rcases List.mem_append.mp hz with q | q
    · exact h.rc z q
    · rw [List.mem_singleton.mp q]; exact .s (h.rc x hx) ha
  · rcases List.mem_append.mp hz with q | q
    · exact h.bd z q
    · rw [List.mem_singleton.mp q]; have := g.adj ha; exact ⟨this.2.2.1, this.2.2.2.1⟩
theorem Mt.len {n : Int} {ts : List T3} (g : GW n ts) {met : List Int} (h : Mt n ts met) : (met.length : Int) ≤ n := by
  have hb : ∀ x ∈ met, 0 ≤ x ∧ x < (n.toNat : Int) := fun x hx => by have := h.bd x hx; have := g.n1; omega
  have := nd_len h.nd hb
  have := g.n1
  omega
def spJw : Sp := fun vs H Q _ => ∃ (wa pl : Addr) (n : Int) (ts : List T3), vs = [.ref wa, .ref pl, .int 0] ∧ WebAt H wa n ts ∧ H pl = some (.lst ((lowTo n.toNat).map V.int)) ∧
  ∀ (la : Addr) (met ms : List Int) (H' : Hp), Same H H' → H' la = some (.lst (ms.map V.int)) → ms.length = met.length → met.Nodup → 0 ∈ met → (∀ x ∈ met, ∀ y k, Adj ts x y k → y ∈ met) → (∀ x ∈ met, Rch ts x) → Q (.ref la) H'
section
variable {P : Program} {w : World} {K : PySem.W.Frag} {mg : Str → Option Value} {base : Heap}
theorem scJw : FnScope ["web", "places", "start", "met", "gone", "place"] ["web", "places", "start"] (defScope sJw) := ⟨rfl, rfl, rfl, by decide +kernel, rfl, by decide +kernel, by decide +kernel⟩
theorem ok_jw {f fB fT : Addr} {fd' fdB fdT : FuncData} (F : Fun K "joined_within" "joined_within" sJw f fd') (FB : Fun K "beside" "beside" sBeside fB fdB) (bB : Binds K fdB ["web", "place"] []) (mB : mg "beside" = some (.ref fB))
    (FT : Fun K "ties_at" "ties_at" sTies fT fdT) (bT : Binds K fdT ["web", "place"] []) (mT : mg "ties_at" = some (.ref fT)) (mSorted : mg "sorted" = none) (mTuple : mg "tuple" = none) (mLen : mg "len" = none) :
    FnOk P w K mg base CX0 3 f fd' ["web", "places", "start"] spJw := by
  have GB : FnOk P w K mg base CX0 2 fB fdB ["web", "place"] spBeside := ok_beside FB FT bT mT mSorted mTuple
  refine F.ok scJw (fun vs H Q E h => ?_) (fun cdv A outer s H vs Q E hr h => ?_)
  · obtain ⟨wa, pl, n, ts, rfl, _⟩ := h
    rfl
  · obtain ⟨wa, pl, n, ts, rfl, W, hpl, k⟩ := h
    obtain ⟨ta, tys, hwa, _, _, G⟩ := id W
    refine ⟨_, pss_cons (ps_set (i := 3) scJw.nd rfl (Or.inl rfl) (pe_lst (pa_cons (pv 2) pa_nil))) (pss_cons (ps_set (i := 4) scJw.nd rfl (Or.inl rfl) pe_int)
      (pss_cons (ps_while PassesOwn.never (pt_cmpR op_lt (pv 4) (pe_callB call_len_seq (by rfl) mLen PySem.boot_len (pa_cons (pv 3) pa_nil)) (nomark _))
        (pss_cons (ps_for PassesOwn.never rfl (pi_tup (pe_call GB hr rfl mB FB.kp bB .nil pass0 (pa_cons (pv 0) (pa_cons (pe_ix ix_list (pv 3) (pv 4) (fun _ _ => rfl)) pa_nil)))) (pg_name (i := 5) scJw.nd rfl (Or.inl rfl))
          (pss_one (ps_if (PW.pt (pw_and (pt_cmpR op_in_seq (pv 5) (pv 1) (by with_unfolding_all rfl)) (pw_and1 (pt_cmpR op_notIn_seq (pv 5) (pv 3) (by with_unfolding_all rfl))))) (pss_one (ps_expr (pe_bm PySem.F.plainAttrs_list PySem.F.slot_list_append PySem.F.type_list_append mt_append (pv 3) (pa_cons (pv 5) pa_nil)))) pss_nil)))
        (pss_one (ps_aug (i := 4) scJw.nd rfl (Or.inl rfl) pe_int ip_add))))
      (pss_one (ps_ret (pe_callB call_sortedI (by rfl) mSorted (by decide +kernel) (pa_cons (pv 3) pa_nil)))))), ?_⟩
    refine ⟨_, rfl, by show 1 ≤ sizeLine; decide, fun ma hma => ?_⟩
    have hnw : wa ≠ ma := ne_of_none hwa hma
    -- while gone < len(met)
    refine ⟨fun m σ H2 => ∃ (g : Nat) (met : List Int) (vp : Option V), σ = [some (.ref wa), some (.ref pl), some (.int 0), some (.ref ma), some (.int g), vp] ∧ m = (n - g).toNat ∧ Same H H2 ∧ H2 ma = some (.lst (met.map V.int)) ∧ Mt n ts met ∧ g ≤ met.length ∧ (∀ j x, j < g → met[j]? = some x → ∀ y c, Adj ts x y c → y ∈ met),
      ⟨_, 0, [0], none, rfl, rfl, same_laid hma, upd_same, Mt.start G, Nat.zero_le _, fun j x h => by omega⟩, ?_⟩
    rintro m σ H2 ⟨g, met, vp, rfl, rfl, s2, hm2, M, hg, hcl⟩
    refine ⟨_, rfl, _, rfl, ma, _, rfl, .inl (SqL.of hm2), _, _, rfl, rfl, _, rfl, ?_⟩
    have hlen := M.len G
    refine ite2 (fun hc => ?_) (fun hc => ?_)
    · have hlt : g < met.length := by
        have := of_decide_eq_true hc
        rw [List.length_map] at this
        omega
      refine ⟨fun σ' H' => ∃ (met' : List Int) (vp : Option V), σ' = [some (.ref wa), some (.ref pl), some (.int 0), some (.ref ma), some (.int (g + 1)), vp] ∧ Same H H' ∧ H' ma = some (.lst (met'.map V.int)) ∧ Mt n ts met' ∧ g + 1 ≤ met'.length ∧ (∀ j x, j < g + 1 → met'[j]? = some x → ∀ y c, Adj ts x y c → y ∈ met'), ?_, ?_⟩
      · rintro σ' H' ⟨met', vp', rfl, s', hm', M', hg', hc'⟩
        exact ⟨(n - (g + 1 : Nat)).toNat, by omega, g + 1, met', vp', rfl, rfl, s', hm', M', hg', hc'⟩
      · -- for place in beside(web, met[gone])
        refine ⟨_, rfl, _, rfl, _, rfl, ma, _, _, _, rfl, rfl, SqL.of hm2, atI_nat (v := V.int met[g]) (by simp [hlt]), wa, n, ts, met[g], rfl, W.keep s2, fun la hs H3 s3 hla0 hla hrise hmem => ?_⟩
        have hm3 : H3 ma = some (.lst (met.map V.int)) := s3 _ _ hm2
        have nlm : la ≠ ma := ne_of hla hm3 (by intro z; cases z)
        refine ⟨la, rfl, ⟨_, SqT.of hla⟩, for_tup (K := K) (a := la) (xs := hs.map V.int) (fun i σ H4 => ∃ (ex : List Int) (vp : Option V), σ = [some (.ref wa), some (.ref pl), some (.int 0), some (.ref ma), some (.int g), vp] ∧ Same H H4 ∧ H4 la = some (.tup (hs.map V.int)) ∧ H4 ma = some (.lst ((met ++ ex).map V.int)) ∧ Mt n ts (met ++ ex) ∧ ∀ j y, j < i → hs[j]? = some y → y ∈ met ++ ex)
          ⟨[], vp, rfl, s2.trans s3, hla, by rw [List.append_nil]; exact hm3, by rw [List.append_nil]; exact M, fun j y h => by omega⟩ (fun i σ H4 _ ⟨_, _, _, _, e, _⟩ => SqT.of e) ?turn ?after⟩
        case turn =>
          rintro i x σ H4 hi ⟨ex, vp, rfl, s4, hla4, hm4, M4, hin⟩
          obtain ⟨y, hy, rfl⟩ : ∃ y, hs[i]? = some y ∧ V.int y = x := by
            rw [List.getElem?_map] at hi
            cases e : hs[i]? with
            | none => rw [e] at hi; cases hi
            | some y => rw [e] at hi; exact ⟨y, rfl, Option.some.inj hi⟩
          obtain ⟨c, ha⟩ := (hmem y).mp (List.mem_of_getElem? hy)
          have ylow : y ∈ lowTo n.toNat := mem_ints.mpr (by have := G.adj ha; have := G.n1; omega)
          refine ⟨_, rfl, _, rfl, pl, _, rfl, .inl (SqL.of (s4 _ _ hpl)), rfl, flat_ints _, _, rfl, ?_⟩
          refine ifT (show inV (.int y) ((lowTo n.toNat).map V.int) = true by rw [inV_ints]; exact decide_eq_true ylow) ?_
          refine ⟨_, rfl, _, rfl, ma, _, rfl, .inl (SqL.of hm4), rfl, flat_ints _, _, rfl, ?_⟩
          refine ite2 (fun hc2 => ?_) (fun hc2 => ?_)
          · have hno : ¬ y ∈ met ++ ex := fun hy2 => by
              have hc3 : (!inV (.int y) ((met ++ ex).map V.int)) = true := hc2
              rw [inV_ints, decide_eq_true hy2] at hc3
              cases hc3
            have hl4 := M4.len G
            refine ⟨_, rfl, .inl ⟨rfl, _, SqL.of hm4⟩, _, rfl, ma, _, _, rfl, rfl, hm4, small_line (by rw [List.length_map]; have := G.n24; omega), ?_⟩
            refine ⟨ex ++ [y], _, rfl, same_chg s4 hma, by rw [upd_ne nlm]; exact hla4, by rw [upd_same, ← List.append_assoc, List.map_append (l₁ := met ++ ex)]; rfl, ?_, fun j z hj hz => ?_⟩
            · rw [← List.append_assoc]
              exact M4.more G (List.mem_append_left _ (List.getElem_mem hlt)) ha hno
            · rw [← List.append_assoc]
              by_cases hji : j < i
              · exact List.mem_append_left _ (hin j z hji hz)
              · have e : j = i := by omega
                subst e
                rw [hy] at hz
                cases hz
                simp
          · have hyes : y ∈ met ++ ex := by
              by_cases hy2 : y ∈ met ++ ex
              · exact hy2
              · exfalso
                apply hc2
                show (!inV (.int y) ((met ++ ex).map V.int)) = true
                rw [inV_ints, decide_eq_false hy2]
                rfl
            refine ⟨ex, _, rfl, s4, hla4, hm4, M4, fun j z hj hz => ?_⟩
            by_cases hji : j < i
            · exact hin j z hji hz
            · have e : j = i := by omega
              subst e
              rw [hy] at hz
              cases hz
              exact hyes
        case after =>
          rintro σ H4 ⟨ex, vp, rfl, s4, hla4, hm4, M4, hin⟩
          refine ⟨_, rfl, _, _, rfl, rfl, ?_⟩
          refine ⟨met ++ ex, _, rfl, s4, hm4, M4, by rw [List.length_append]; omega, fun j x hj hx y c ha => ?_⟩
          by_cases hjg : j < g
          · rw [List.getElem?_append_left (by omega)] at hx
            exact List.mem_append_left _ (hcl j x hjg hx y c ha)
          · have e : j = g := by omega
            subst e
            rw [List.getElem?_append_left hlt, List.getElem?_eq_getElem hlt] at hx
            cases hx
            obtain ⟨i, hi, e⟩ := List.getElem_of_mem ((hmem y).mpr ⟨c, ha⟩)
            exact hin i y (by rw [List.length_map]; exact hi) (by rw [List.getElem?_eq_getElem hi, e])
    · have hge : g = met.length := by
        have h1 : ¬ ((g : Int) < ((met.map V.int).length : Int)) := fun z => hc (decide_eq_true z)
        rw [List.length_map] at h1
        omega
      subst hge
      have hn24 := G.n24
      refine ⟨_, rfl, ma, met, rfl, SqL.of hm2, by omega, fun la ms hla hp _ => ?_⟩
      refine k la met ms _ (s2.trans (same_laid hla)) upd_same hp.length_eq M.nd M.z (fun x hx y c ha => ?_) M.rc
      obtain ⟨j, hj, e⟩ := List.getElem_of_mem hx
      exact hcl j x hj (by rw [List.getElem?_eq_getElem hj, e]) y c ha
theorem scWhole : FnScope ["web"] ["web"] (defScope sWhole) := ⟨rfl, rfl, rfl, by decide +kernel, rfl, by decide +kernel, by decide +kernel⟩
theorem ok_whole {f fJ fB fT : Addr} {fd' fdJ fdB fdT : FuncData} (F : Fun K "is_whole" "is_whole" sWhole f fd') (FJ : Fun K "joined_within" "joined_within" sJw fJ fdJ) (bJ : Binds K fdJ ["web", "places", "start"] []) (mJ : mg "joined_within" = some (.ref fJ))
    (FB : Fun K "beside" "beside" sBeside fB fdB) (bB : Binds K fdB ["web", "place"] []) (mB : mg "beside" = some (.ref fB))
    (FT : Fun K "ties_at" "ties_at" sTies fT fdT) (bT : Binds K fdT ["web", "place"] []) (mT : mg "ties_at" = some (.ref fT)) (mSorted : mg "sorted" = none) (mTuple : mg "tuple" = none) (mLen : mg "len" = none) (mRange : mg "range" = none) (mList : mg "list" = none) :
    FnOk P w K mg base CX0 4 f fd' ["web"] spWhole := by
  have GJ : FnOk P w K mg base CX0 3 fJ fdJ ["web", "places", "start"] spJw := ok_jw FJ FB bB mB FT bT mT mSorted mTuple mLen
  refine F.ok scWhole (fun vs H Q E h => ?_) (fun cdv A outer s H vs Q E hr h => ?_)
  · obtain ⟨wa, n, ts, rfl, _⟩ := h
    rfl
  · obtain ⟨wa, n, ts, rfl, W, k⟩ := h
    obtain ⟨ta, tys, hwa, _, _, G⟩ := id W
    have hn1 := G.n1
    have hn24 := G.n24
    refine ⟨_, pss_one (ps_ret (pe_cmpR op_eq (pe_callB call_len_seq (by rfl) mLen PySem.boot_len (pa_cons (pe_call GJ hr rfl mJ FJ.kp bJ .nil pass0 (pa_cons (pv 0) (pa_cons (pe_lrange rfl rfl mList rfl mRange (pa_cons (pe_ix ix_tup (pv 0) pe_int (fun _ _ => rfl)) pa_nil)) (pa_int pa_nil)))) pa_nil)) (pe_ix ix_tup (pv 0) pe_int (fun _ _ => rfl)) (nomark _))), ?_⟩
    refine ⟨_, rfl, _, rfl, wa, _, _, _, rfl, rfl, SqT.of hwa, rfl, n, rfl, by omega, by omega, fun pl hpl => ?_⟩
    refine ⟨wa, pl, n, ts, rfl, W.keep (same_laid hpl), upd_same, fun la met ms H' s' hla hl nd z cl rc => ?_⟩
    have s2 := (same_laid hpl).trans s'
    refine ⟨la, _, rfl, .inl (SqL.of hla), _, rfl, wa, _, _, _, rfl, rfl, SqT.of (s2 _ _ hwa), rfl, rfl, ?_⟩
    rw [dec_int', List.length_map, hl]
    exact k met H' s2 nd z cl rc
end
section
variable {P : Program} {w : World} {K : PySem.W.Frag} {mg : Str → Option Value} {base : Heap}
/-- closed against a tie: both ends or none -/
def Cl (met : List Int) (t : T3) : Prop := t.1 ∈ met ↔ t.2.1 ∈ met
theorem closed_of {ts : List T3} {met : List Int} (h : ∀ t ∈ ts, Cl met t) : ∀ x ∈ met, ∀ y k, Adj ts x y k → y ∈ met := fun x hx y k ha => by
  rcases ha with ha | ha
  · exact (h _ ha).mp hx
  · exact (h _ ha).mpr hx
theorem scMet : FnScope ["_law_web_here", "_law_met_here", "_law_turn", "_law_a", "_law_b", "_law_long"] ["_law_web_here"] (defScope sMet) := ⟨rfl, rfl, rfl, by decide +kernel, rfl, by decide +kernel, by decide +kernel⟩
theorem ok_met {f : Addr} {fd' : FuncData} (F : Fun K "_law_met" "_law_met" sMet f fd') (mRange : mg "range" = none) (mInt : mg "int" = none) : FnOk P w K mg base CX0 1 f fd' ["_law_web_here"] spMet := by
  refine F.ok scMet (fun vs H Q E h => ?_) (fun cdv A outer s H vs Q E hr h => ?_)
  · obtain ⟨wa, n, ts, rfl, _⟩ := h
    rfl
  · obtain ⟨wa, n, ts, rfl, W, k⟩ := h
    obtain ⟨ta, tys, hwa, hta, TA, G⟩ := id W
    refine ⟨_, pss_cons (ps_set (i := 1) scMet.nd rfl (Or.inl rfl) (pe_lst (pa_int pa_nil)))
      (pss_cons (ps_for PassesOwn.never rfl (pi_range1 rfl mRange (pa_cons (pe_ix ix_tup (pv 0) pe_int (fun _ _ => rfl)) pa_nil)) (pg_name (i := 2) scMet.nd rfl (Or.inl rfl))
        (pss_one (ps_for PassesOwn.never rfl (pi_tup (pe_ix ix_tup (pv 0) pe_int (fun _ _ => rfl))) (pg_tup rfl (pgs_cons (pg_name (i := 3) scMet.nd rfl (Or.inl rfl)) (pgs_cons (pg_name (i := 4) scMet.nd rfl (Or.inl rfl)) (pgs_cons (pg_name (i := 5) scMet.nd rfl (Or.inl rfl)) pgs_nil))))
          (pss_one (ps_if (pt_cmpR op_ne (pe_cmpR op_in_seq (pv 3) (pv 1) (by with_unfolding_all rfl)) (pe_cmpR op_in_seq (pv 4) (pv 1) (by with_unfolding_all rfl)) (nomark _))
            (pss_one (ps_set (i := 1) scMet.nd rfl (Or.inl rfl) (pe_op op_cat (pv 1) (pe_lst (pa_cons (pe_ix ix_list (pe_lst (pa_cons (pv 3) (pa_cons (pv 4) pa_nil)))
              (pe_callTy call_int1 (by rfl) mInt (by decide +kernel) (pa_cons (pe_cmpR op_in_seq (pv 3) (pv 1) (by with_unfolding_all rfl)) pa_nil)) (fun _ _ => rfl)) pa_nil))))) pss_nil)))))
      (pss_one (ps_ret (pv 1)))), ?_⟩
    refine ⟨by show 1 ≤ sizeLine; decide, fun m0 hm0 => ?_⟩
    have hlt : tys.length = ts.length := by rw [TA.length, List.length_map]
    have n1 := G.n1
    have n24 := G.n24
    refine ⟨_, rfl, wa, _, _, _, rfl, rfl, SqT.of (same_laid hm0 _ _ hwa), rfl, n, rfl, by omega, by omega, for_range (lo := 0) (n := n.toNat)
      (fun i σ H2 => ∃ (ma : Addr) (met : List Int) (vt va vb vl : Option V), σ = [some (.ref wa), some (.ref ma), vt, va, vb, vl] ∧ Same H H2 ∧ H2 ma = some (.lst (met.map V.int)) ∧ Mt n ts met ∧ ((∀ t ∈ ts, Cl met t) ∨ i + 1 ≤ met.length))
      ⟨m0, [0], none, none, none, none, rfl, same_laid hm0, upd_same, Mt.start G, .inr (Nat.le_refl _)⟩ ?turn ?after⟩
    case turn =>
      rintro i σ H2 hi ⟨ma, met, vt, va, vb, vl, rfl, s2, hm2, M, hor⟩
      refine ⟨_, rfl, wa, _, _, _, rfl, rfl, SqT.of (s2 _ _ hwa), rfl, ta, rfl, ⟨_, SqT.of (s2 _ _ hta)⟩, for_tup (K := K) (a := ta) (xs := tys)
        (fun j σ H3 => ∃ (ma : Addr) (met' : List Int) (vt va vb vl : Option V), σ = [some (.ref wa), some (.ref ma), vt, va, vb, vl] ∧ Same H H3 ∧ H3 ma = some (.lst (met'.map V.int)) ∧ Mt n ts met' ∧ ((met' = met ∧ ∀ q t, q < j → ts[q]? = some t → Cl met t) ∨ (met.length < met'.length ∧ ¬ ∀ t ∈ ts, Cl met t)))
        ⟨ma, met, _, _, _, _, rfl, s2, hm2, M, .inl ⟨rfl, fun q t h => by omega⟩⟩ (fun j σ H3 _ ⟨_, _, _, _, _, _, _, s3, _⟩ => SqT.of (s3 _ _ hta)) ?turn2 ?after2⟩
      case turn2 =>
        rintro j y σ H3 hj ⟨mb, met', vt, va, vb, vl, rfl, s3, hm3, M3, hor3⟩
        obtain ⟨ya, ky, rfl, hky, hya, _⟩ := TA.get hj
        rw [List.getElem?_map] at hky
        obtain ⟨⟨a, b, c⟩, hti, rfl⟩ : ∃ t : T3, ts[j]? = some t ∧ tl t = ky := by
          cases e : ts[j]? with
          | none => rw [e] at hky; cases hky
          | some t => rw [e] at hky; exact ⟨t, rfl, Option.some.inj hky⟩
        have htm : (a, b, c) ∈ ts := List.mem_of_getElem? hti
        refine ⟨ya, _, rfl, SqT.of (s3 _ _ hya), rfl, _, _, rfl, _, _, rfl, _, _, rfl, rfl, ?_⟩
        refine ⟨_, rfl, _, rfl, mb, _, rfl, .inl (SqL.of hm3), rfl, flat_ints _, _, rfl, _, rfl, mb, _, rfl, .inl (SqL.of hm3), rfl, flat_ints _, rfl, _, rfl, ?_⟩
        have ea : (if false = true then !inV (V.int a) (met'.map V.int) else inV (V.int a) (met'.map V.int)) = decide (a ∈ met') := inV_ints
        have eb : (if false = true then !inV (V.int b) (met'.map V.int) else inV (V.int b) (met'.map V.int)) = decide (b ∈ met') := inV_ints
        refine ite2 (fun h1 => ?_) (fun h1 => ?_)
        · rw [ea, eb] at h1
          have hne : ¬ (a ∈ met' ↔ b ∈ met') := fun e => by
            have e2 : decide (a ∈ met') = decide (b ∈ met') := decide_eq_decide.mpr e
            rw [e2] at h1
            simp at h1
          -- met + [the other one]
          refine ⟨_, rfl, _, rfl, _, rfl, by show 2 ≤ sizeLine; decide, fun q hq => ?_⟩
          have hm4 : (upd H3 q (.lst [.int a, .int b])) mb = some (.lst (met'.map V.int)) := same_laid hq _ _ hm3
          refine ⟨_, rfl, _, rfl, mb, _, rfl, .inl (SqL.of hm4), rfl, flat_ints _, .inr ⟨_, rfl, ?_⟩⟩
          rw [ea]
          obtain ⟨z, hz, hzn, x, hx, hadj⟩ : ∃ z, atI [V.int a, V.int b] (if decide (a ∈ met') = true then 1 else 0) = some (.int z) ∧ ¬ z ∈ met' ∧ ∃ x ∈ met', ∃ c, Adj ts x z c := by
            by_cases ha : a ∈ met'
            · have hb : ¬ b ∈ met' := fun hb => hne ⟨fun _ => hb, fun _ => ha⟩
              rw [decide_eq_true ha]
              exact ⟨b, rfl, hb, a, ha, c, .inl htm⟩
            · have hb : b ∈ met' := by
                by_cases hb : b ∈ met'
                · exact hb
                · exact absurd ⟨fun h => absurd h ha, fun h => absurd h hb⟩ hne
              rw [decide_eq_false ha]
              exact ⟨a, rfl, ha, b, hb, c, .inr htm⟩
          obtain ⟨c', hadj⟩ := hadj
          refine ⟨q, _, _, _, rfl, rfl, SqL.of upd_same, hz, by show 1 ≤ sizeLine; decide, fun q2 hq2 => ?_⟩
          have hl3 := M3.len G
          refine ⟨mb, q2, _, _, rfl, rfl, same_laid hq2 _ _ hm4, upd_same, Nat.le_of_lt (small_line (by rw [List.length_map]; show met'.length + 1 ≤ _; omega)), fun q3 hq3 => ?_⟩
          refine ⟨q3, met' ++ [z], _, _, _, _, rfl, s3.trans ((same_laid hq).trans ((same_laid hq2).trans (same_laid hq3))), by rw [upd_same, List.map_append]; rfl, M3.more G hx hadj hzn, .inr ⟨?_, ?_⟩⟩
          · rw [List.length_append]
            rcases hor3 with ⟨e, _⟩ | ⟨e, _⟩
            · rw [e]; exact Nat.lt_succ_self _
            · show met.length < met'.length + 1; omega
          · rcases hor3 with ⟨e, _⟩ | ⟨_, e⟩
            · intro hall
              exact hne (by rw [e]; exact hall _ htm)
            · exact e
        · rw [ea, eb] at h1
          refine ⟨mb, met', _, _, _, _, rfl, s3, hm3, M3, ?_⟩
          rcases hor3 with ⟨e, hall⟩ | e
          · refine .inl ⟨e, fun q t hq ht => ?_⟩
            by_cases hqj : q < j
            · exact hall q t hqj ht
            · have eq : q = j := by omega
              subst eq
              rw [hti] at ht
              cases ht
              rw [← e]
              have h2 : decide (a ∈ met') = decide (b ∈ met') := by
                by_cases h3 : decide (a ∈ met') = decide (b ∈ met')
                · exact h3
                · exfalso
                  apply h1
                  simp [h3]
              exact decide_eq_decide.mp h2
          · exact .inr e
      case after2 =>
        rintro σ H3 ⟨mb, met', vt, va, vb, vl, rfl, s3, hm3, M3, hor3⟩
        refine ⟨mb, met', _, _, _, _, rfl, s3, hm3, M3, ?_⟩
        rcases hor3 with ⟨e, hall⟩ | ⟨e, hno⟩
        · refine .inl fun t ht => ?_
          obtain ⟨q, hq, e2⟩ := List.getElem_of_mem ht
          rw [e]
          exact hall q t (by omega) (by rw [List.getElem?_eq_getElem hq, e2])
        · rcases hor with h | h
          · exact absurd h hno
          · exact .inr (by omega)
    case after =>
      rintro σ H2 ⟨ma, met, vt, va, vb, vl, rfl, s2, hm2, M, hor⟩
      have hl := M.len G
      have hcl : ∀ t ∈ ts, Cl met t := hor.resolve_right (by omega)
      exact ⟨_, rfl, k ma met H2 s2 hm2 M.nd M.z (closed_of hcl) M.rc⟩
end
/-! ### the law -/
def spLaw (K : PySem.W.Frag) : Sp := fun vs H Q _ => ∃ (a : Addr) (ns : List Int), vs = [.ref a] ∧ SqL K H a (ns.map V.int) ∧ ns.length ≤ 63 ∧ ∀ H', Q (.bl true) H'
/-- the dict of pairs tells the ties that were taken -/
def PD (ts : List T3) (kvs : List (List Key × V)) : Prop := ∀ x y : Int, (∀ l, valV kvs [Sum.inl x, Sum.inl y] = some (.int l) ↔ Adj ts x y l) ∧ ∀ v, valV kvs [Sum.inl x, Sum.inl y] = some v → ∃ l, v = .int l
theorem PD.nil : PD [] [] := fun x y => ⟨fun l => by simp [valV_nil, Adj], fun v h => by simp [valV_nil] at h⟩
theorem pair_eq {x y a b : Int} : ([Sum.inl x, Sum.inl y] : List Key) = [Sum.inl a, Sum.inl b] ↔ x = a ∧ y = b := by simp
theorem PD.put {n : Int} {ts pre : List T3} {a b c : Int} {post : List T3} (g : GW n ts) (e : ts = pre ++ (a, b, c) :: post) {kvs : List (List Key × V)} (h : PD pre kvs) : PD (pre ++ [(a, b, c)]) (putK (putK kvs [Sum.inl a, Sum.inl b] (.int c)) [Sum.inl b, Sum.inl a] (.int c)) := by
  have hin : (a, b, c) ∈ ts := by rw [e]; simp
  have hab := (g.rng _ hin).2.1
  simp only at hab
  have sub : ∀ {x y l}, Adj (pre ++ [(a, b, c)]) x y l → Adj ts x y l := fun h => by
    rw [e]
    rcases h with h | h
    · refine .inl ?_
      rcases List.mem_append.mp h with q | q
      · exact List.mem_append_left _ q
      · rw [List.mem_singleton.mp q]; simp
    · refine .inr ?_
      rcases List.mem_append.mp h with q | q
      · exact List.mem_append_left _ q
      · rw [List.mem_singleton.mp q]; simp
  have new : Adj (pre ++ [(a, b, c)]) a b c := .inl (by simp)
  intro x y
  rw [valV_put, valV_put]
  by_cases h1 : x = b ∧ y = a
  · obtain ⟨rfl, rfl⟩ := h1
    rw [if_pos rfl]
    refine ⟨fun l => ⟨fun hl => ?_, fun ha => ?_⟩, fun v hv => ⟨c, (Option.some.inj hv).symm⟩⟩
    · have : c = l := by have := Option.some.inj hl; injection this
      subst this
      exact new.symm
    · rw [g.uniq (sub ha) (sub new.symm)]
  · rw [if_neg (fun z => h1 (pair_eq.mp z))]
    by_cases h2 : x = a ∧ y = b
    · obtain ⟨rfl, rfl⟩ := h2
      rw [if_pos rfl]
      refine ⟨fun l => ⟨fun hl => ?_, fun ha => ?_⟩, fun v hv => ⟨c, (Option.some.inj hv).symm⟩⟩
      · have : c = l := by have := Option.some.inj hl; injection this
        subst this
        exact new
      · rw [g.uniq (sub ha) (sub new)]
    · rw [if_neg (fun z => h2 (pair_eq.mp z))]
      refine ⟨fun l => ?_, (h x y).2⟩
      rw [(h x y).1 l]
      constructor
      · rintro (q | q)
        · exact .inl (List.mem_append_left _ q)
        · exact .inr (List.mem_append_left _ q)
      · rintro (q | q)
        · rcases List.mem_append.mp q with q | q
          · exact .inl q
          · exfalso
            have := List.mem_singleton.mp q
            injection this with q1 q2
            injection q2 with q2 q3
            exact h2 ⟨q1, q2⟩
        · rcases List.mem_append.mp q with q | q
          · exact .inr q
          · exfalso
            have := List.mem_singleton.mp q
            injection this with q1 q2
            injection q2 with q2 q3
            exact h1 ⟨q2, q1⟩
theorem PD.some {ts : List T3} {kvs : List (List Key × V)} (h : PD ts kvs) (x y : Int) : (valV kvs [Sum.inl x, Sum.inl y]).isSome = true ↔ ∃ l, Adj ts x y l := by
  constructor
  · intro hs
    obtain ⟨v, hv⟩ := Option.isSome_iff_exists.mp hs
    obtain ⟨l, rfl⟩ := (h x y).2 v hv
    exact ⟨l, ((h x y).1 l).mp hv⟩
  · rintro ⟨l, ha⟩
    rw [((h x y).1 l).mpr ha]
    rfl
theorem showsAll_ints {H : Hp} : ∀ l : List Int, ShowsAll H (l.map V.int) (l.map PyData.int)
  | [] => .nil
  | x :: r => .cons (.int x) (showsAll_ints r)
theorem fn_ints {l : List Int} (hl : l.length ≤ 100) (hb : ∀ x ∈ l, x.natAbs < 1000000000) : Fn 1048576 50 (.tuple (l.map PyData.int)) :=
  (fn_tup (n := 30) (p := 0) (L := 100) (fun d hd => by
    obtain ⟨x, hx, rfl⟩ := List.mem_map.mp hd
    exact fn_int (hb x hx)) (by rw [List.length_map]; exact hl)).mono (by decide) (by decide)
theorem iteEq {A B : Prop} {x y : V} (e : x = y) (h : B) : if (!decide (x = y)) = true then A else B := by subst e; exact iteNS rfl h
section
variable {P : Program} {w : World} {K : PySem.W.Frag} {mg : Str → Option Value} {base : Heap}
theorem scLaw : FnScope ["_law_script", "_law_tape_here", "_law_k", "_law_web_here", "_law_pairs", "_law_a", "_law_b", "_law_long", "_law_one", "_law_other", "_law_due", "_law_turn"] ["_law_script"] (defScope sLaw) := ⟨rfl, rfl, rfl, by decide +kernel, rfl, by decide +kernel, by decide +kernel⟩
theorem ok_law {f fTa fD fN fW fT fL fB fH fJ fM : Addr} {fd' fdTa fdD fdN fdW fdT fdL fdB fdH fdJ fdM : FuncData} (F : Fun K "law" "law" sLaw f fd')
    (FTa : Fun K "_law_tape" "_law_tape" sTape fTa fdTa) (bTa : Binds K fdTa ["_law_script"] []) (mTa : mg "_law_tape" = some (.ref fTa))
    (FD : Fun K "_law_draw" "_law_draw" sDraw fD fdD) (bD : Binds K fdD ["_law_tape_here", "_law_many"] []) (mD : mg "_law_draw" = some (.ref fD))
    (FN : Fun K "_law_n" "_law_n" sN fN fdN) (bN : Binds K fdN ["_law_tape_here"] []) (mN : mg "_law_n" = some (.ref fN))
    (FW : Fun K "_law_web" "_law_web" sWeb fW fdW) (bW : Binds K fdW ["_law_tape_here", "_law_n_here"] []) (mW : mg "_law_web" = some (.ref fW))
    (FT : Fun K "ties_at" "ties_at" sTies fT fdT) (bT : Binds K fdT ["web", "place"] []) (mT : mg "ties_at" = some (.ref fT))
    (FL : Fun K "long_of" "long_of" sLong fL fdL) (bL : Binds K fdL ["web", "one", "other"] []) (mL : mg "long_of" = some (.ref fL))
    (FB : Fun K "beside" "beside" sBeside fB fdB) (bB : Binds K fdB ["web", "place"] []) (mB : mg "beside" = some (.ref fB))
    (FH : Fun K "is_whole" "is_whole" sWhole fH fdH) (bH : Binds K fdH ["web"] []) (mH : mg "is_whole" = some (.ref fH))
    (FJ : Fun K "joined_within" "joined_within" sJw fJ fdJ) (bJ : Binds K fdJ ["web", "places", "start"] []) (mJ : mg "joined_within" = some (.ref fJ))
    (FM : Fun K "_law_met" "_law_met" sMet fM fdM) (bM : Binds K fdM ["_law_web_here"] []) (mM : mg "_law_met" = some (.ref fM))
    (mLen : mg "len" = none) (mRange : mg "range" = none) (mTuple : mg "tuple" = none) (mSorted : mg "sorted" = none) (mRepr : mg "repr" = none) (mInt : mg "int" = none) (mList : mg "list" = none) : FnOk P w K mg base CX0 5 f fd' ["_law_script"] (spLaw K) := by
  have GTa : FnOk P w K mg base CX0 4 fTa fdTa ["_law_script"] (spTape K) := (ok_tape FTa).mono (by decide)
  have GN : FnOk P w K mg base CX0 4 fN fdN ["_law_tape_here"] spN := (ok_n FN FD bD mD mLen).mono (by decide)
  have GW' : FnOk P w K mg base CX0 4 fW fdW ["_law_tape_here", "_law_n_here"] spWeb := (ok_web FW FD bD mD mLen mRange mTuple mSorted).mono (by decide)
  have GL : FnOk P w K mg base CX0 4 fL fdL ["web", "one", "other"] spLong := (ok_long FL FT bT mT mSorted).mono (by decide)
  have GB : FnOk P w K mg base CX0 4 fB fdB ["web", "place"] spBeside := (ok_beside FB FT bT mT mSorted mTuple).mono (by decide)
  have GH : FnOk P w K mg base CX0 4 fH fdH ["web"] spWhole := ok_whole FH FJ bJ mJ FB bB mB FT bT mT mSorted mTuple mLen mRange mList
  have GM : FnOk P w K mg base CX0 4 fM fdM ["_law_web_here"] spMet := (ok_met FM mRange mInt).mono (by decide)
  refine F.ok scLaw (fun vs H Q E h => ?_) (fun cdv A outer s H vs Q E hr h => ?_)
  · obtain ⟨a, ns, rfl, _⟩ := h
    rfl
  · obtain ⟨a, ns, rfl, hS, hlen, k⟩ := h
    have hu := hu_of hr
    refine ⟨_, pss_cons (ps_set (i := 1) scLaw.nd rfl (Or.inl rfl) (pe_call GTa hr rfl mTa FTa.kp bTa .nil pass0 (pa_cons (pv 0) pa_nil)))
      (pss_cons (ps_for PassesOwn.never rfl (pi_range1 rfl mRange (pa_int pa_nil)) (pg_name (i := 2) scLaw.nd rfl (Or.inl rfl))
        (pss_cons (ps_set (i := 3) scLaw.nd rfl (Or.inl rfl) (pe_call GW' hr rfl mW FW.kp bW .nil pass0 (pa_cons (pv 1) (pa_cons (pe_call GN hr rfl mN FN.kp bN .nil pass0 (pa_cons (pv 1) pa_nil)) pa_nil))))
        (pss_cons (ps_set (i := 4) scLaw.nd rfl (Or.inr rfl) pe_dnewT)
        (pss_cons (ps_for PassesOwn.never rfl (pi_tup (pe_ix ix_tup (pv 3) pe_int (fun _ _ => rfl))) (pg_tup rfl (pgs_cons (pg_name (i := 5) scLaw.nd rfl (Or.inl rfl)) (pgs_cons (pg_name (i := 6) scLaw.nd rfl (Or.inl rfl)) (pgs_cons (pg_name (i := 7) scLaw.nd rfl (Or.inl rfl)) pgs_nil))))
          (pss_cons (ps_dput hu (pv 4) (pe_tup (pa_cons (pv 5) (pa_cons (pv 6) pa_nil))) (pv 7) rfl) (pss_one (ps_dput hu (pv 4) (pe_tup (pa_cons (pv 6) (pa_cons (pv 5) pa_nil))) (pv 7) rfl))))
        (pss_cons (ps_for PassesOwn.never rfl (pi_range1 rfl mRange (pa_cons (pe_ix ix_tup (pv 3) pe_int (fun _ _ => rfl)) pa_nil)) (pg_name (i := 8) scLaw.nd rfl (Or.inr rfl))
          (pss_cons (ps_set (i := 10) scLaw.nd rfl (Or.inl rfl) (pe_callTy call_tuple_of (by rfl) mTuple (by decide +kernel) (pa_cons
            (pe_comp (own := ["_law_other"]) (cn := ["_law_one", "_law_pairs"]) (ci := [8, 4]) rfl (csc rfl rfl) ⟨rfl, rfl, rfl, rfl, rfl, rfl, trivial⟩ rfl
              (pi_range1 rfl mRange (pa_cons (pe_ix ix_tup (pv 3) pe_int (fun _ _ => rfl)) pa_nil)) (fun _ _ _ _ => pg_name (i := 0) (nd_of rfl) rfl (Or.inl rfl))
              (fun _ _ _ _ => pts_one (pt_cmp (pc_din hu (pe_tup (pa_cons (pv 1) (pa_cons (pv 0) pa_nil))) (pv 2)))) (fun _ _ _ _ => pv 0)) pa_nil)))
          (pss_cons (ps_for PassesOwn.never rfl (pi_range1 rfl mRange (pa_int pa_nil)) (pg_name (i := 11) scLaw.nd rfl (Or.inl rfl))
            (pss_one (ps_if (pt_cmpR op_ne (pe_callB (call_repr hr) (by rfl) mRepr (by decide +kernel) (pa_cons (pe_call GB hr rfl mB FB.kp bB .nil pass0 (pa_cons (pv 3) (pa_cons (pv 8) pa_nil))) pa_nil)) (pe_callB (call_repr hr) (by rfl) mRepr (by decide +kernel) (pa_cons (pv 10) pa_nil)) (nomark _)) (pss_one (ps_ret pe_bl)) pss_nil)))
          (pss_one (ps_for PassesOwn.never rfl (pi_range1 rfl mRange (pa_cons (pe_ix ix_tup (pv 3) pe_int (fun _ _ => rfl)) pa_nil)) (pg_name (i := 9) scLaw.nd rfl (Or.inl rfl))
            (pss_one (ps_if (pt_cmpR op_ne (pe_callB (call_repr hr) (by rfl) mRepr (by decide +kernel) (pa_cons (pe_call GL hr rfl mL FL.kp bL .nil pass0 (pa_cons (pv 3) (pa_cons (pv 8) (pa_cons (pv 9) pa_nil)))) pa_nil))
              (pe_callB (call_repr hr) (by rfl) mRepr (by decide +kernel) (pa_cons (pe_dget1 hu (pv 4) (pe_tup (pa_cons (pv 8) (pa_cons (pv 9) pa_nil))) ⟨rfl, rfl, rfl, rfl⟩) pa_nil)) (nomark _)) (pss_one (ps_ret pe_bl)) pss_nil)))))))
        (pss_one (ps_if (pt_cmpR op_ne (pe_callB (call_repr hr) (by rfl) mRepr (by decide +kernel) (pa_cons (pe_call GH hr rfl mH FH.kp bH .nil pass0 (pa_cons (pv 3) pa_nil)) pa_nil))
          (pe_callB (call_repr hr) (by rfl) mRepr (by decide +kernel) (pa_cons (pe_cmpR op_eq (pe_callB call_len_seq (by rfl) mLen PySem.boot_len (pa_cons (pe_call GM hr rfl mM FM.kp bM .nil pass0 (pa_cons (pv 3) pa_nil)) pa_nil)) (pe_ix ix_tup (pv 3) pe_int (fun _ _ => rfl)) (nomark _)) pa_nil)) (nomark _)) (pss_one (ps_ret pe_bl)) pss_nil)))))))
      (pss_one (ps_ret pe_bl))), ?_⟩
    refine ⟨_, rfl, a, ns, rfl, hS, hlen, fun t H1 ht0 T1 s1 => ?_⟩
    refine ⟨6, rfl, by decide, by decide, for_range (lo := 0) (n := 6) (fun i σ H2 => ∃ (v2 v3 v4 v5 v6 v7 v8 v9 v10 v11 : Option V), σ = [some (.ref a), some (.ref t), v2, v3, v4, v5, v6, v7, v8, v9, v10, v11] ∧ TapeAt H2 t (201 * i))
      ⟨_, _, _, _, _, _, _, _, _, _, rfl, T1⟩ ?turn ?after⟩
    case after =>
      rintro σ H2 ⟨_, _, _, _, _, _, _, _, _, _, rfl, _⟩
      exact k H2
    case turn =>
      rintro i σ H2 hi ⟨_, _, v4, v5, v6, v7, v8, v9, v10, v11, rfl, T2⟩
      -- web = _law_web(tape, _law_n(tape))
      refine ⟨_, rfl, _, rfl, t, 201 * i, rfl, T2, by omega, fun n H3 hn1 hn2 Tp3 _ => ?_⟩
      refine ⟨t, 201 * i + 1, n, rfl, Tp3, by omega, hn1, by omega, fun wa ts H4 _ W T4 _ => ?_⟩
      obtain ⟨ta, tys, hwa, hta, TA, G⟩ := id W
      have hlt : tys.length = ts.length := by rw [TA.length, List.length_map]
      -- pairs = {}
      intro d hd
      have W5 : WebAt (upd H4 d (.dT [])) wa n ts := W.keep (same_laid hd)
      refine ⟨_, rfl, wa, _, _, _, rfl, rfl, SqT.of (same_laid hd _ _ hwa), rfl, ta, rfl, ⟨_, SqT.of (same_laid hd _ _ hta)⟩, for_tup (K := K) (a := ta) (xs := tys)
        (fun j σ H5 => ∃ (v2 v5 v6 v7 v8 v9 v10 v11 : Option V) (kvs : List (List Key × V)), σ = [some (.ref a), some (.ref t), v2, some (.ref wa), some (.ref d), v5, v6, v7, v8, v9, v10, v11] ∧ Same H4 H5 ∧ H5 d = some (.dT kvs) ∧ kvs.length ≤ 2 * j ∧ PD (ts.take j) kvs)
        ⟨_, _, _, _, _, _, _, _, [], rfl, same_laid hd, upd_same, Nat.le_refl _, PD.nil⟩ (fun j σ H5 _ ⟨_, _, _, _, _, _, _, _, _, _, s5, _⟩ => SqT.of (s5 _ _ hta)) ?turn1 ?after1⟩
      case turn1 =>
        rintro j y σ H5 hj ⟨_, v5, v6, v7, v8, v9, v10, v11, kvs, rfl, s5, hd5, hkl, pd⟩
        obtain ⟨ya, ky, rfl, hky, hya, _⟩ := TA.get hj
        rw [List.getElem?_map] at hky
        obtain ⟨⟨x, z, c⟩, htj, rfl⟩ : ∃ t : T3, ts[j]? = some t ∧ tl t = ky := by
          cases e : ts[j]? with
          | none => rw [e] at hky; cases hky
          | some t => rw [e] at hky; exact ⟨t, rfl, Option.some.inj hky⟩
        have hjl : j < ts.length := (List.getElem?_eq_some_iff.mp htj).1
        have h64 := G.len
        refine ⟨ya, _, rfl, SqT.of (s5 _ _ hya), rfl, _, _, rfl, _, _, rfl, _, _, rfl, rfl, ?_⟩
        refine ⟨_, rfl, _, rfl, _, rfl, _, rfl, by show 2 ≤ sizeLine; decide, fun p hp => ?_⟩
        refine ⟨d, _, rfl, DPut.t (k := [Sum.inl x, Sum.inl z]) (same_laid hp _ _ hd5) upd_same (small_line (by omega)), ?_⟩
        refine ⟨_, rfl, _, rfl, _, rfl, _, rfl, by show 2 ≤ sizeLine; decide, fun p2 hp2 => ?_⟩
        have l1 := length_putK kvs [Sum.inl x, Sum.inl z] (V.int c)
        refine ⟨d, _, rfl, DPut.t (k := [Sum.inl z, Sum.inl x]) (same_laid hp2 _ _ upd_same) upd_same (small_line (Nat.le_trans (length_putK _ _ _) (by omega))), ?_⟩
        have l2 := length_putK (putK kvs [Sum.inl x, Sum.inl z] (V.int c)) [Sum.inl z, Sum.inl x] (V.int c)
        have hd4 : H4 d = none := hd
        refine ⟨_, _, _, _, _, _, _, _, _, rfl, ?_, upd_same, Nat.le_trans (length_putK _ _ _) (Nat.le_trans (Nat.succ_le_succ (length_putK _ _ _)) (by omega)), ?_⟩
        · have a1 : Same H4 (upd (upd H5 p (.tup [.int x, .int z])) d (.dT (putK kvs [Sum.inl x, Sum.inl z] (.int c)))) := same_chg (s5.trans (same_laid hp)) hd4
          exact same_chg (a1.trans (same_laid hp2)) hd4
        · rw [List.take_add_one, htj]
          refine PD.put G (post := ts.drop (j + 1)) ?_ pd
          have e1 : ts.drop j = (x, z, c) :: ts.drop (j + 1) := by
            rw [List.drop_eq_getElem_cons hjl]
            rw [List.getElem?_eq_getElem hjl] at htj
            rw [Option.some.inj htj]
          rw [← e1, List.take_append_drop]
      case after1 =>
        rintro σ H5 ⟨_, v5, v6, v7, v8, v9, v10, v11, kvs, rfl, s5, hd5, hkl, pd⟩
        rw [hlt, List.take_of_length_le (Nat.le_refl _)] at pd
        have n1 := G.n1
        -- for one in range(web[0])
        refine ⟨_, rfl, wa, _, _, _, rfl, rfl, SqT.of (s5 _ _ hwa), rfl, n, rfl, by omega, by omega, for_range (lo := 0) (n := n.toNat)
          (fun j σ H6 => ∃ (v2 v5 v6 v7 v8 v9 v10 v11 : Option V), σ = [some (.ref a), some (.ref t), v2, some (.ref wa), some (.ref d), v5, v6, v7, v8, v9, v10, v11] ∧ Same H5 H6)
          ⟨_, _, _, _, _, _, _, _, rfl, Same.refl _⟩ ?turn2 ?after2⟩
        case turn2 =>
          rintro j σ H6 hj ⟨_, v5, v6, v7, v8, v9, v10, v11, rfl, s6⟩
          rw [Int.zero_add]
          have hd6 : H6 d = some (.dT kvs) := s6 _ _ hd5
          have W6 : WebAt H6 wa n ts := W.keep (s5.trans s6)
          -- due
          refine ⟨_, rfl, wa, _, _, _, rfl, rfl, SqT.of ((s5.trans s6) _ _ hwa), rfl, n, rfl, by omega, by omega, [.int (j : Int), .ref d], rfl, fun D hD => ?_⟩
          refine comp_range (lo := 0) (n := n.toNat) (fun q ys H7 => q ≤ n.toNat ∧ ys = ((lowTo q).filter fun o => (valV kvs [Sum.inl (j : Int), Sum.inl o]).isSome).map V.int ∧ Same H6 H7 ∧ H7 D = some (.lst ys)) ⟨Nat.zero_le _, rfl, same_laid hD, upd_same⟩ (fun q ys H7 h => ?_) (fun q ys H7 hq h => ?_) (fun ys H7 h => ?_)
          · obtain ⟨hq, rfl, _⟩ := h
            rw [List.length_map]
            refine Nat.lt_of_le_of_lt (List.length_filter_le _ _) (small_line ?_)
            rw [lowTo, List.length_map, List.length_range]
            omega
          · obtain ⟨_, rfl, s7, hD7⟩ := h
            rw [Int.zero_add]
            refine ⟨⟨rfl, rfl⟩, ?_⟩
            refine ⟨_, rfl, _, rfl, by show 2 ≤ sizeLine; decide, fun p hp => ?_⟩
            refine ⟨_, rfl, d, _, rfl, DGet.t (k := [Sum.inl (j : Int), Sum.inl (q : Int)]) (same_laid hp _ _ (s7 _ _ hd6)) upd_same, _, rfl, ?_⟩
            have e1 : lowTo (q + 1) = lowTo q ++ [(q : Int)] := by unfold lowTo; rw [List.range_succ, List.map_append]; rfl
            refine ite2 (fun hc => ?_) (fun hc => ?_)
            · refine ⟨_, rfl, same_laid hp _ _ hD7, hq, ?_, same_chg (s7.trans (same_laid hp)) hD, upd_same⟩
              rw [e1, List.filter_append, List.filter_cons_of_pos (p := fun o => (valV kvs [Sum.inl (j : Int), Sum.inl o]).isSome) hc, List.filter_nil, List.map_append]
              rfl
            · refine ⟨hq, ?_, s7.trans (same_laid hp), same_laid hp _ _ ?_⟩
              · rw [e1, List.filter_append, List.filter_cons_of_neg (p := fun o => (valV kvs [Sum.inl (j : Int), Sum.inl o]).isSome) hc, List.filter_nil, List.append_nil]
              · exact hD7
          · obtain ⟨_, rfl, s7, hD7⟩ := h
            refine ⟨D, _, rfl, .inl ⟨SqL.of hD7, fun du hdu => ?_⟩⟩
            generalize hdue : ((lowTo n.toNat).filter fun o => (valV kvs [Sum.inl (j : Int), Sum.inl o]).isSome) = due at hdu ⊢
            have hdue_rise : due.Pairwise (· < ·) := by rw [← hdue]; exact (ints_rise _).sublist List.filter_sublist
            have hdue_mem : ∀ y, y ∈ due ↔ ∃ k, Adj ts j y k := fun y => by
              rw [← hdue, List.mem_filter, pd.some]
              refine ⟨fun h => h.2, fun h => ⟨mem_ints.mpr ?_, h⟩⟩
              obtain ⟨c, ha⟩ := h
              have := G.adj ha
              omega
            have hfine : ∀ l : List Int, l.Pairwise (· < ·) → (∀ y, y ∈ l ↔ ∃ k, Adj ts j y k) → Fn 1048576 50 (.tuple (l.map PyData.int)) := fun l hl hm => by
              have hb : ∀ x ∈ l, 0 ≤ x ∧ x < (n.toNat : Int) := fun x hx => by
                obtain ⟨c, ha⟩ := (hm x).mp hx
                have := G.adj ha
                omega
              have h24 := G.n24
              refine fn_ints (Nat.le_trans (nd_len (hl.imp fun h => by omega) hb) (by omega)) fun x hx => ?_
              have := hb x hx
              omega
            have hdu8 : (upd H7 du (.tup (due.map V.int))) du = some (.tup (due.map V.int)) := upd_same
            have s8 : Same H6 (upd H7 du (.tup (due.map V.int))) := s7.trans (same_laid hdu)
            generalize hH8 : upd H7 du (.tup (due.map V.int)) = H8 at hdu8 s8 ⊢
            -- beside, twice
            refine ⟨2, rfl, by decide, by decide, for_range (lo := 0) (n := 2) (fun q σ H9 => ∃ (v2 v5 v6 v7 v9 v11 : Option V), σ = [some (.ref a), some (.ref t), v2, some (.ref wa), some (.ref d), v5, v6, v7, some (.int j), v9, some (.ref du), v11] ∧ Same H8 H9) ⟨_, _, _, _, _, _, rfl, Same.refl _⟩ ?turn3 ?after3⟩
            case turn3 =>
              rintro q σ H9 hq ⟨_, v5, v6, v7, v9, v11, rfl, s9⟩
              refine ⟨_, rfl, _, rfl, wa, n, ts, j, rfl, W6.keep (s8.trans s9), fun l hs H10 s10 hl0 hl hrise hmem => ?_⟩
              have ehs : hs = due := rise_same hrise hdue_rise fun y => (hmem y).trans (hdue_mem y).symm
              refine ⟨_, .tuple (hs.map PyData.int), rfl, .tup hl (showsAll_ints hs), hfine hs hrise hmem, ?_⟩
              refine ⟨_, rfl, _, .tuple (due.map PyData.int), rfl, .tup (s10 _ _ (s9 _ _ hdu8)) (showsAll_ints due), hfine due hdue_rise hdue_mem, ?_⟩
              refine ⟨rfl, _, rfl, iteEq (by rw [ehs]) ?_⟩
              exact ⟨_, _, _, _, _, _, rfl, s9.trans s10⟩
            case after3 =>
              rintro σ H9 ⟨_, v5, v6, v7, v9, v11, rfl, s9⟩
              -- long_of, for each other
              refine ⟨_, rfl, wa, _, _, _, rfl, rfl, SqT.of (s9 _ _ (s8 _ _ ((s5.trans s6) _ _ hwa))), rfl, n, rfl, by omega, by omega, for_range (lo := 0) (n := n.toNat) (fun q σ H10 => ∃ (v2 v5 v6 v7 v9 v11 : Option V), σ = [some (.ref a), some (.ref t), v2, some (.ref wa), some (.ref d), v5, v6, v7, some (.int j), v9, some (.ref du), v11] ∧ Same H8 H10) ⟨_, _, _, _, _, _, rfl, s9⟩ ?turn4 ?after4⟩
              case turn4 =>
                rintro q σ H10 hq ⟨_, v5, v6, v7, v9, v11, rfl, s10⟩
                rw [Int.zero_add]
                refine ⟨_, rfl, _, rfl, _, rfl, wa, n, ts, j, q, rfl, W6.keep (s8.trans s10), fun r H11 s11 hrr => ?_⟩
                obtain ⟨dd, hsh, hfn⟩ : ∃ dd, (∀ H : Hp, Shows H r dd) ∧ Fn 1048576 50 dd := by
                  rcases hrr with ⟨l, ha, rfl⟩ | ⟨_, rfl⟩
                  · have := G.adj ha
                    exact ⟨.int l, fun _ => .int l, (fn_int (by omega)).mono (by decide) (by decide)⟩
                  · exact ⟨.none, fun _ => .non, fn_none.mono (by decide) (by decide)⟩
                have hval : (valV kvs [Sum.inl (j : Int), Sum.inl (q : Int)]).getD .non = r := by
                  rcases hrr with ⟨l, ha, rfl⟩ | ⟨hno, rfl⟩
                  · rw [((pd j q).1 l).mpr ha]; rfl
                  · cases e : valV kvs [Sum.inl (j : Int), Sum.inl (q : Int)] with
                    | none => rfl
                    | some v =>
                      obtain ⟨l, rfl⟩ := (pd j q).2 v e
                      exact absurd (((pd j q).1 l).mp e) (hno l)
                refine ⟨_, dd, rfl, hsh _, hfn, ?_⟩
                have hd11 : H11 d = some (.dT kvs) := s11 _ _ (s10 _ _ (s8 _ _ hd6))
                refine ⟨_, rfl, d, rfl, .inr ⟨kvs, .inl hd11⟩, _, rfl, _, rfl, by show 2 ≤ sizeLine; decide, fun p hp => ?_⟩
                refine ⟨_, DGet.t (k := [Sum.inl (j : Int), Sum.inl (q : Int)]) (same_laid hp _ _ hd11) upd_same, ?_⟩
                rw [hval]
                refine ⟨_, dd, rfl, hsh _, hfn, ?_⟩
                refine ⟨rfl, _, rfl, iteEq rfl ?_⟩
                exact ⟨_, _, _, _, _, _, rfl, (s10.trans s11).trans (same_laid hp)⟩
              case after4 =>
                rintro σ H10 ⟨_, v5, v6, v7, v9, v11, rfl, s10⟩
                exact ⟨_, _, _, _, _, _, _, _, rfl, s6.trans (s8.trans s10)⟩
        case after2 =>
          rintro σ H6 ⟨_, v5, v6, v7, v8, v9, v10, v11, rfl, s6⟩
          have W6 : WebAt H6 wa n ts := W.keep (s5.trans s6)
          refine ⟨_, rfl, wa, n, ts, rfl, W6, fun met H7 s7 nd1 z1 c1 r1 => ?_⟩
          refine ⟨_, .bool _, rfl, .bl _, (fn_bool _).mono (by decide) (by decide), ?_⟩
          refine ⟨_, rfl, wa, n, ts, rfl, W6.keep s7, fun la met2 H8 s8 hla nd2 z2 c2 r2 => ?_⟩
          refine ⟨la, _, rfl, .inl (SqL.of hla), _, rfl, wa, _, _, _, rfl, rfl, SqT.of (s8 _ _ (s7 _ _ ((s5.trans s6) _ _ hwa))), rfl, rfl, ?_⟩
          refine ⟨_, .bool _, rfl, .bl _, (fn_bool _).mono (by decide) (by decide), ?_⟩
          refine ⟨rfl, _, rfl, iteEq ?_ ?_⟩
          · rw [dec_int', List.length_map, whole_same nd1 nd2 z1 z2 c1 c2 r1 r2]
          · exact ⟨_, _, _, _, _, _, _, _, _, _, rfl, (T4.keep (s5.trans (s6.trans (s7.trans s8)))).mono (by omega)⟩
end
/-! ### what the top has written, and the head -/
theorem all_mk {l : PySem.W.OpenLaw} {w : World} {K : PySem.W.Frag} {h : Heap} {mg : Str → Option Value} {fa fTa fD fN fW fT fL fB fH fJ fM fZ : Addr} (X : K.In h) (G : h.Ns mainGlobals mg) (hfa : mg "law" = some (.ref fa))
    {odTa anTa odD anD odN anN odW anW odT anT odL anL odB anB odH anH odJ anJ odM anM odZ anZ : Option Addr} {slTa slD slN slW slT slL slB slH slJ slM slZ : Array (Option Value)} {ocTa kVTa dcTa pmTa cdTa ctTa ocD kVD dcD pmD cdD ctD ocN kVN dcN pmN cdN ctN ocW kVW dcW pmW cdW ctW ocT kVT dcT pmT cdT ctT ocL kVL dcL pmL cdL ctL ocB kVB dcB pmB cdB ctB ocH kVH dcH pmH cdH ctH ocJ kVJ dcJ pmJ cdJ ctJ ocM kVM dcM pmM cdM ctM ocZ kVZ dcZ pmZ cdZ ctZ : Value}
    (aTa : PySem.W.nsIn K mainGlobals "_law_tape" = some (some (.ref fTa))) (lTa : K.lookup fTa = some ⟨ocTa, odTa, .func (PySem.W.fnOf "_law_tape" "_law_tape" (defArgs sTape) (defBody sTape) (defScope sTape) .none kVTa dcTa pmTa anTa cdTa ctTa), slTa⟩) (cTa : PySem.W.codeIn K cdTa "_law_tape" = true) (kTa : PySem.W.keepIn K (.ref fTa) = true)
    (aD : PySem.W.nsIn K mainGlobals "_law_draw" = some (some (.ref fD))) (lD : K.lookup fD = some ⟨ocD, odD, .func (PySem.W.fnOf "_law_draw" "_law_draw" (defArgs sDraw) (defBody sDraw) (defScope sDraw) .none kVD dcD pmD anD cdD ctD), slD⟩) (cD : PySem.W.codeIn K cdD "_law_draw" = true) (kD : PySem.W.keepIn K (.ref fD) = true)
    (aN : PySem.W.nsIn K mainGlobals "_law_n" = some (some (.ref fN))) (lN : K.lookup fN = some ⟨ocN, odN, .func (PySem.W.fnOf "_law_n" "_law_n" (defArgs sN) (defBody sN) (defScope sN) .none kVN dcN pmN anN cdN ctN), slN⟩) (cN : PySem.W.codeIn K cdN "_law_n" = true) (kN : PySem.W.keepIn K (.ref fN) = true)
    (aW : PySem.W.nsIn K mainGlobals "_law_web" = some (some (.ref fW))) (lW : K.lookup fW = some ⟨ocW, odW, .func (PySem.W.fnOf "_law_web" "_law_web" (defArgs sWeb) (defBody sWeb) (defScope sWeb) .none kVW dcW pmW anW cdW ctW), slW⟩) (cW : PySem.W.codeIn K cdW "_law_web" = true) (kW : PySem.W.keepIn K (.ref fW) = true)
    (aT : PySem.W.nsIn K mainGlobals "ties_at" = some (some (.ref fT))) (lT : K.lookup fT = some ⟨ocT, odT, .func (PySem.W.fnOf "ties_at" "ties_at" (defArgs sTies) (defBody sTies) (defScope sTies) .none kVT dcT pmT anT cdT ctT), slT⟩) (cT : PySem.W.codeIn K cdT "ties_at" = true) (kT : PySem.W.keepIn K (.ref fT) = true)
    (aL : PySem.W.nsIn K mainGlobals "long_of" = some (some (.ref fL))) (lL : K.lookup fL = some ⟨ocL, odL, .func (PySem.W.fnOf "long_of" "long_of" (defArgs sLong) (defBody sLong) (defScope sLong) .none kVL dcL pmL anL cdL ctL), slL⟩) (cL : PySem.W.codeIn K cdL "long_of" = true) (kL : PySem.W.keepIn K (.ref fL) = true)
    (aB : PySem.W.nsIn K mainGlobals "beside" = some (some (.ref fB))) (lB : K.lookup fB = some ⟨ocB, odB, .func (PySem.W.fnOf "beside" "beside" (defArgs sBeside) (defBody sBeside) (defScope sBeside) .none kVB dcB pmB anB cdB ctB), slB⟩) (cB : PySem.W.codeIn K cdB "beside" = true) (kB : PySem.W.keepIn K (.ref fB) = true)
    (aH : PySem.W.nsIn K mainGlobals "is_whole" = some (some (.ref fH))) (lH : K.lookup fH = some ⟨ocH, odH, .func (PySem.W.fnOf "is_whole" "is_whole" (defArgs sWhole) (defBody sWhole) (defScope sWhole) .none kVH dcH pmH anH cdH ctH), slH⟩) (cH : PySem.W.codeIn K cdH "is_whole" = true) (kH : PySem.W.keepIn K (.ref fH) = true)
    (aJ : PySem.W.nsIn K mainGlobals "joined_within" = some (some (.ref fJ))) (lJ : K.lookup fJ = some ⟨ocJ, odJ, .func (PySem.W.fnOf "joined_within" "joined_within" (defArgs sJw) (defBody sJw) (defScope sJw) .none kVJ dcJ pmJ anJ cdJ ctJ), slJ⟩) (cJ : PySem.W.codeIn K cdJ "joined_within" = true) (kJ : PySem.W.keepIn K (.ref fJ) = true)
    (aM : PySem.W.nsIn K mainGlobals "_law_met" = some (some (.ref fM))) (lM : K.lookup fM = some ⟨ocM, odM, .func (PySem.W.fnOf "_law_met" "_law_met" (defArgs sMet) (defBody sMet) (defScope sMet) .none kVM dcM pmM anM cdM ctM), slM⟩) (cM : PySem.W.codeIn K cdM "_law_met" = true) (kM : PySem.W.keepIn K (.ref fM) = true)
    (aZ : PySem.W.nsIn K mainGlobals "law" = some (some (.ref fZ))) (lZ : K.lookup fZ = some ⟨ocZ, odZ, .func (PySem.W.fnOf "law" "law" (defArgs sLaw) (defBody sLaw) (defScope sLaw) .none kVZ dcZ pmZ anZ cdZ ctZ), slZ⟩) (cZ : PySem.W.codeIn K cdZ "law" = true) (kZ : PySem.W.keepIn K (.ref fZ) = true)
    (z0 : PySem.W.nsIn K mainGlobals "len" = some none)
    (z1 : PySem.W.nsIn K mainGlobals "range" = some none)
    (z2 : PySem.W.nsIn K mainGlobals "tuple" = some none)
    (z3 : PySem.W.nsIn K mainGlobals "sorted" = some none)
    (z4 : PySem.W.nsIn K mainGlobals "repr" = some none)
    (z5 : PySem.W.nsIn K mainGlobals "int" = some none)
    (z6 : PySem.W.nsIn K mainGlobals "list" = some none)
    : ∃ fd : FuncData, (∀ (s : Shared) (v : Value), BindsTo s fd ⟨[v], []⟩ [("_law_script", v)]) ∧ ∀ base : Heap, K.In base → base.Ns mainGlobals mg → FnOk l.prog w K mg base CX0 5 fa fd ["_law_script"] (spLaw K) := by
  have e := hfa.symm.trans (PySem.W.mg_of X G aZ)
  cases e
  have FTa := fun_mk (st := sTape) lTa cTa kTa
  have FD := fun_mk (st := sDraw) lD cD kD
  have FN := fun_mk (st := sN) lN cN kN
  have FW := fun_mk (st := sWeb) lW cW kW
  have FT := fun_mk (st := sTies) lT cT kT
  have FL := fun_mk (st := sLong) lL cL kL
  have FB := fun_mk (st := sBeside) lB cB kB
  have FH := fun_mk (st := sWhole) lH cH kH
  have FJ := fun_mk (st := sJw) lJ cJ kJ
  have FM := fun_mk (st := sMet) lM cM kM
  have FZ := fun_mk (st := sLaw) lZ cZ kZ
  have bTa := FTa.binds (ps := ["_law_script"]) fun _ _ _ _ _ _ us hl => match us, hl with | [_], _ => rfl
  have mTa := PySem.W.mg_of X G aTa
  have bD := FD.binds (ps := ["_law_tape_here", "_law_many"]) fun _ _ _ _ _ _ us hl => match us, hl with | [_, _], _ => rfl
  have mD := PySem.W.mg_of X G aD
  have bN := FN.binds (ps := ["_law_tape_here"]) fun _ _ _ _ _ _ us hl => match us, hl with | [_], _ => rfl
  have mN := PySem.W.mg_of X G aN
  have bW := FW.binds (ps := ["_law_tape_here", "_law_n_here"]) fun _ _ _ _ _ _ us hl => match us, hl with | [_, _], _ => rfl
  have mW := PySem.W.mg_of X G aW
  have bT := FT.binds (ps := ["web", "place"]) fun _ _ _ _ _ _ us hl => match us, hl with | [_, _], _ => rfl
  have mT := PySem.W.mg_of X G aT
  have bL := FL.binds (ps := ["web", "one", "other"]) fun _ _ _ _ _ _ us hl => match us, hl with | [_, _, _], _ => rfl
  have mL := PySem.W.mg_of X G aL
  have bB := FB.binds (ps := ["web", "place"]) fun _ _ _ _ _ _ us hl => match us, hl with | [_, _], _ => rfl
  have mB := PySem.W.mg_of X G aB
  have bH := FH.binds (ps := ["web"]) fun _ _ _ _ _ _ us hl => match us, hl with | [_], _ => rfl
  have mH := PySem.W.mg_of X G aH
  have bJ := FJ.binds (ps := ["web", "places", "start"]) fun _ _ _ _ _ _ us hl => match us, hl with | [_, _, _], _ => rfl
  have mJ := PySem.W.mg_of X G aJ
  have bM := FM.binds (ps := ["_law_web_here"]) fun _ _ _ _ _ _ us hl => match us, hl with | [_], _ => rfl
  have mM := PySem.W.mg_of X G aM
  have mb0 := PySem.W.mg_none_of X G z0
  have mb1 := PySem.W.mg_none_of X G z1
  have mb2 := PySem.W.mg_none_of X G z2
  have mb3 := PySem.W.mg_none_of X G z3
  have mb4 := PySem.W.mg_none_of X G z4
  have mb5 := PySem.W.mg_none_of X G z5
  have mb6 := PySem.W.mg_none_of X G z6
  exact ⟨PySem.W.fnOf "law" "law" (defArgs sLaw) (defBody sLaw) (defScope sLaw) .none kVZ dcZ pmZ anZ cdZ ctZ, fun s v => .of_eq rfl, fun base _ _ => ok_law FZ FTa bTa mTa FD bD mD FN bN mN FW bW mW FT bT mT FL bL mL FB bB mB FH bH mH FJ bJ mJ FM bM mM mb0 mb1 mb2 mb3 mb4 mb5 mb6⟩
theorem walk {l : PySem.W.OpenLaw} {q : Program} {loose : List Str} {XP : (Str → Option Value) → Heap → Prop} {YP : World → Heap → Prop} {d : DefRec} {K : Params → PySem.W.Frag} (hn : l.most = some 63) (hdf : d.params.defaults = [])
    (hY : ∀ (w : World) (h : Heap), YP w h → (K w.params).In h)
    (F : ∀ (w : World) (mg : Str → Option Value) (fa : Addr) (h : Heap), (K w.params).In h → h.Ns mainGlobals mg → mg d.name = some (.ref fa) →
      ∃ fd : FuncData, (∀ (s : Shared) (u : Value), BindsTo s fd ⟨[u], []⟩ [("_law_script", u)]) ∧ ∀ base : Heap, (K w.params).In base → base.Ns mainGlobals mg → FnOk l.prog w (K w.params) mg base CX0 5 fa fd ["_law_script"] (spLaw (K w.params))) :
    PySem.W.WalkO q loose XP YP l.row.toRowW d [] (fun f vs => PySem.call f vs) :=
  L2.walk_of (n := 63) (k := 5) (x := "_law_script") (CX := fun _ => CX0) (sp := fun w => spLaw (K w.params)) hn (by decide) hdf ⟨rfl, by decide, by decide, rfl⟩ hY F (fun _ _ a ns hl _ hS => ⟨a, ns, rfl, hS, hl, fun _ => rfl⟩) fun _ _ _ _ _ z => z
end K02
open PySem PySem.W PyProof.Rows
set_option maxRecDepth 100000 in
set_option maxHeartbeats 0 in
theorem PySem.Challenge.cw_labelways_k02_ties_and_neighbours_holds : PySem.Challenge.rw_labelways_k02_ties_and_neighbours.Holds := by
  w_on; o_law; k_head; (case hw => w_witness2)
  k_fill
  refine K02.walk (l := PySem.Challenge.rw_labelways_k02_ties_and_neighbours) rfl rfl (fun w h Y => PySem.W.kIn_of Y) ?F
  case F =>
    intro w mg fa h KX G hmg
    refine' K02.all_mk KX G hmg ?aTa ?lTa ?cTa ?kTa ?aD ?lD ?cD ?kD ?aN ?lN ?cN ?kN ?aW ?lW ?cW ?kW ?aT ?lT ?cT ?kT ?aL ?lL ?cL ?kL ?aB ?lB ?cB ?kB ?aH ?lH ?cH ?kH ?aJ ?lJ ?cJ ?kJ ?aM ?lM ?cM ?kM ?aZ ?lZ ?cZ ?kZ ?z0 ?z1 ?z2 ?z3 ?z4 ?z5 ?z6
    (case aTa => k_is)
    (case lTa => k_is)
    (case cTa => k_is)
    (case kTa => k_is)
    (case aD => k_is)
    (case lD => k_is)
    (case cD => k_is)
    (case kD => k_is)
    (case aN => k_is)
    (case lN => k_is)
    (case cN => k_is)
    (case kN => k_is)
    (case aW => k_is)
    (case lW => k_is)
    (case cW => k_is)
    (case kW => k_is)
    (case aT => k_is)
    (case lT => k_is)
    (case cT => k_is)
    (case kT => k_is)
    (case aL => k_is)
    (case lL => k_is)
    (case cL => k_is)
    (case kL => k_is)
    (case aB => k_is)
    (case lB => k_is)
    (case cB => k_is)
    (case kB => k_is)
    (case aH => k_is)
    (case lH => k_is)
    (case cH => k_is)
    (case kH => k_is)
    (case aJ => k_is)
    (case lJ => k_is)
    (case cJ => k_is)
    (case kJ => k_is)
    (case aM => k_is)
    (case lM => k_is)
    (case cM => k_is)
    (case kM => k_is)
    (case aZ => k_is)
    (case lZ => k_is)
    (case cZ => k_is)
    (case kZ => k_is)
    (case z0 => k_is)
    (case z1 => k_is)
    (case z2 => k_is)
    (case z3 => k_is)
    (case z4 => k_is)
    (case z5 => k_is)
    (case z6 => k_is)
