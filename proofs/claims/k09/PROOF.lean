import PyProof.Rows.All
import Wide.All
import OpenK.AllK
import Wide.FinOn
import Lean
import PyProof.EqAt
import PyProof.EqKinds
import PyProof.TupleCall
import PyProof.ListRange
import PySem.Challenge.RW_labelways_k09_whole_labels_tell_lengths
set_option Elab.async false
set_option linter.all false
set_option maxRecDepth 100000
theorem nb1 {n : Int} (h : 1 ≤ n) : 0 ≤ n := by omega
theorem nb2 {n : Int} (h : 1 ≤ n) : 0 < n := h
theorem nb3 {n : Int} (h : 1 ≤ n) : -(2 ^ 62) ≤ n := by omega
theorem nb4 {n : Int} (h : n ≤ 24) : n < 2 ^ 62 := by omega
theorem nb5 {n : Int} (h : n ≤ 24) : n ≤ 1000 := by omega
theorem nb6 {n : Int} (h : n ≤ 12) : n ≤ 24 := by omega
theorem nb7 {n : Int} (h : n ≤ 12) : n < 2 ^ 62 := by omega
theorem nb8 {q : Nat} {n : Int} (h : q < n.toNat) : 0 + (q : Int) < n := by omega
theorem nb9 {q : Nat} : 0 ≤ 0 + (q : Int) := by omega
theorem nba {m : Nat} {n : Int} (e : m = n.toNat) (h : n ≤ 24) : m ≤ 1000 := by omega
theorem nbb {m : Nat} {n : Int} (e : m = n.toNat) (h : n ≤ 24) : m ≤ 24 := by omega
theorem nbc {m : Nat} {n : Int} (e : m = n.toNat) (h : n ≤ 24) : m ≤ 100000 := by omega
theorem nbd {m q : Nat} {n : Int} (e : m = n.toNat) (h : q < n.toNat) : q < m := e ▸ h
theorem nbe {q : Nat} {n : Int} (h : q < n.toNat) (h' : n ≤ 24) : q ≤ 100000 := by omega
theorem nbf {m : Nat} (h : m ≤ 24) : m ≤ 100000 := by omega
theorem nbg {m : Nat} (h : m ≤ 1000) : m ≤ 100000 := by omega
theorem nbh {q : Nat} {n : Int} (h : q ≤ n.toNat) (h' : n ≤ 24) : q ≤ 100000 := by omega
theorem om {p : Prop} (h : p := by first | assumption | exact Int.natCast_nonneg _ | exact Int.lt_toNat.mp (by assumption) | exact nb1 (by assumption) | exact nb2 (by assumption) | exact nb3 (by assumption) | exact nb4 (by assumption) | exact nb5 (by assumption) | exact nb6 (by assumption) | exact nb7 (by assumption) | exact nb8 (by assumption) | exact nb9 | exact nba (by assumption) (by assumption) | exact nbb (by assumption) (by assumption) | exact nbc (by assumption) (by assumption) | exact nbd (by assumption) (by assumption) | exact nbe (by assumption) (by assumption) | exact nbf (by assumption) | exact nbg (by assumption) | exact nbh (by assumption) (by assumption) | lia | omega) : p := h
namespace L2
open PySem PySem.Spec PyProof.Rows
noncomputable abbrev Key := Sum Int Str
noncomputable def keyIs : Key → Value → Bool
  | .inl k, v => Value.isInt k v
  | .inr x, v => Value.isStrOf x v
noncomputable def keyH (w : World) : Key → Int
  | .inl k => hashInt k
  | .inr x => hashStr w x
theorem keyIs_shape : ∀ {k : Key} {v : Value}, keyIs k v = true → (∃ i t, k = Sum.inl i ∧ v = Value.int i t) ∨ (∃ x t, k = Sum.inr x ∧ v = Value.str x t)
  | .inl i, v, h => by
    obtain ⟨t, e⟩ := Value.isInt_shape (k := i) (v := v) h
    exact .inl ⟨i, t, rfl, e⟩
  | .inr x, v, h => by
    obtain ⟨t, e⟩ := Value.isStrOf_shape (x := x) (v := v) h
    exact .inr ⟨x, t, rfl, e⟩
theorem keyIs_int (i : Int) (t : Tok) : keyIs (.inl i) (.int i t) = true := by simp [keyIs, Value.isInt]
theorem keyIs_str (x : Str) (t : Tok) : keyIs (.inr x) (.str x t) = true := by simp [keyIs, Value.isStrOf]
theorem key_ll (a b : Int) : decide ((Sum.inl a : Key) = Sum.inl b) = (a == b) := by
  by_cases e : a = b
  · subst e; simp
  · have h : ¬ (Sum.inl a : Key) = Sum.inl b := fun q => e (Sum.inl.inj q)
    rw [decide_eq_false h]
    exact (beq_eq_false_iff_ne.mpr e).symm
theorem key_rr (a b : Str) : decide ((Sum.inr a : Key) = Sum.inr b) = decide (a = b) := by
  by_cases e : a = b
  · subst e; simp
  · have h : ¬ (Sum.inr a : Key) = Sum.inr b := fun q => e (Sum.inr.inj q)
    rw [decide_eq_false h, decide_eq_false e]
theorem key_lr (a : Int) (b : Str) : decide ((Sum.inl a : Key) = Sum.inr b) = false := decide_eq_false (fun q => nomatch q)
theorem key_rl (a : Str) (b : Int) : decide ((Sum.inr a : Key) = Sum.inl b) = false := decide_eq_false (fun q => nomatch q)
noncomputable def mixKind (prog : Program) (w : World) : PySem.KeyKind prog w Key where
  is := keyIs
  hash := keyH w
  inj := fun v a b ha hb => by
    rcases keyIs_shape ha with ⟨i, t, rfl, rfl⟩ | ⟨x, t, rfl, rfl⟩
    · rcases keyIs_shape hb with ⟨j, u, rfl, e⟩ | ⟨y, u, rfl, e⟩
      · injection e with e1 _; rw [e1]
      · exact nomatch e
    · rcases keyIs_shape hb with ⟨j, u, rfl, e⟩ | ⟨y, u, rfl, e⟩
      · exact nomatch e
      · injection e with e1 _; rw [e1]
  byValue := fun k v h => by
    rcases keyIs_shape h with ⟨i, t, rfl, rfl⟩ | ⟨x, t, rfl, rfl⟩ <;> rfl
  pyHash := fun hv h => by
    rcases keyIs_shape hv with ⟨i, t, rfl, rfl⟩ | ⟨x, t, rfl, rfl⟩
    · exact wpAny_pyHash_int h
    · exact wpAny_pyHash_str h
  eqBool := fun hu hv h => by
    rcases keyIs_shape hu with ⟨i, t, rfl, rfl⟩ | ⟨x, t, rfl, rfl⟩
    · rcases keyIs_shape hv with ⟨j, u, rfl, rfl⟩ | ⟨y, u, rfl, rfl⟩
      · rw [key_ll] at h; exact wpAny_eqBool_int h
      · rw [key_lr] at h; exact SeqAt.EqAt.int_str i t y u _ _ _ _ h
    · rcases keyIs_shape hv with ⟨j, u, rfl, rfl⟩ | ⟨y, u, rfl, rfl⟩
      · rw [key_rl] at h; exact SeqAt.EqAt.str_int x t j u _ _ _ _ h
      · rw [key_rr] at h; exact wpAny_eqBool_str h
  «strs» := fun k x t v h => by
    rcases keyIs_shape h with ⟨i, u, rfl, e⟩ | ⟨y, u, rfl, e⟩
    · exact nomatch e
    · injection e with e1 _
      subst e1
      cases v <;> rfl
theorem mixKind_int (prog : Program) (w : World) (i : Int) (t : Tok) : (mixKind prog w).is (.inl i) (.int i t) = true := keyIs_int i t
theorem mixKind_str (prog : Program) (w : World) (x : Str) (t : Tok) : (mixKind prog w).is (.inr x) (.str x t) = true := keyIs_str x t
end L2
namespace L2
open PySem PySem.Spec PyProof.Rows
inductive V where
  | non | bl (b : Bool) | int (i : Int) | str (x : Str) | byt (b : Array UInt8) | flt (b : UInt64) | ref (a : Addr) | ty (n : String)
  deriving DecidableEq
noncomputable def RelV : V → Value → Prop
  | .non, u => u = Value.none
  | .bl b, u => u = Value.bool b
  | .int i, u => ∃ t, u = Value.int i t
  | .str x, u => ∃ t, u = Value.str x t
  | .byt b, u => ∃ t, u = Value.bytes b t
  | .flt b, u => ∃ t, u = Value.float b t
  | .ref a, u => u = Value.ref a
  | .ty n, u => u = Value.type n
noncomputable abbrev Vals : List V → List Value → Prop := Paired RelV
theorem Vals.length {xs : List V} {us : List Value} (r : Vals xs us) : xs.length = us.length := Paired.length r
theorem Vals.get {xs : List V} {us : List Value} {i : Nat} {x : V} (h : Vals xs us) (e : xs[i]? = some x) : ∃ u, us[i]? = some u ∧ RelV x u := by
  induction h generalizing i with
  | nil => simp at e
  | cons r t ih =>
    cases i with
    | zero => simp at e; subst e; exact ⟨_, rfl, r⟩
    | succ i =>
      obtain ⟨u, h1, h2⟩ := ih (i := i) (by simpa using e)
      exact ⟨u, by simpa using h1, h2⟩
theorem Vals.set {x : V} {u : Value} (r : RelV x u) {xs : List V} {us : List Value} (i : Nat) (h : Vals xs us) : Vals (xs.set i x) (us.set i u) := by
  induction h generalizing i with
  | nil => exact .nil
  | cons q t ih =>
    cases i with
    | zero => exact .cons r t
    | succ i => exact .cons q (ih i)
theorem Vals.append {xs ys : List V} {us ws : List Value} (h : Vals xs us) (s : Vals ys ws) : Vals (xs ++ ys) (us ++ ws) := by
  induction h with
  | nil => exact s
  | cons r _ ih => exact .cons r ih
theorem Vals.take {xs : List V} {us : List Value} (n : Nat) (h : Vals xs us) : Vals (xs.take n) (us.take n) := by
  induction h generalizing n with
  | nil => cases n <;> exact .nil
  | cons r t ih =>
    cases n with
    | zero => exact .nil
    | succ n => exact .cons r (ih n)
theorem Vals.drop {xs : List V} {us : List Value} (n : Nat) (h : Vals xs us) : Vals (xs.drop n) (us.drop n) := by
  induction h generalizing n with
  | nil => cases n <;> exact .nil
  | cons r t ih =>
    cases n with
    | zero => exact .cons r t
    | succ n => exact ih n
noncomputable def RelO : Option V → Option Value → Prop
  | some v, some u => RelV v u
  | none, none => True
  | _, _ => False
noncomputable def KV {κ : Type} : List (κ × V) → List (κ × Value) → Prop := Paired fun (p : κ × V) (q : κ × Value) => p.1 = q.1 ∧ RelV p.2 q.2
noncomputable def kV : Key → V
  | .inl i => .int i
  | .inr x => .str x
inductive HO where
  /-- a list -/
  | lst (xs : List V)
  /-- a tuple (never changes) -/
  | tup (xs : List V)
  /-- a dict whose keys are ints and texts; one whose keys are tuples of ints and texts (the empty one is both) -/
  | dK (kvs : List (Key × V)) | dT (kvs : List (List Key × V))
  /-- a set of ints: its members, its size -/
  | set (S : Int → Bool) (n : Nat)
  /-- an instance of the class at C, its dict at dx, its attributes -/
  | ins (C dx : Addr) (fs : List (Str × V))
  /-- the dict of the instance at x -/
  | own (x : Addr)
  /-- the dict of an exception -/
  | xd (fs : List (Str × V))
  /-- a bound method, f of x -/
  | met (f x : Addr)
  /-- a range object lo, lo + 1, .. below hi -/
  | rng (lo hi : Int)
  /-- a thing that is known to the object (the script; a dict while a loop walks it): read, never written while it is so -/
  | frz (o : Obj) (u : HO)
  /-- a code object's table -/
  | tbl (ps : Array Value)
  /-- any other thing, by what is true of its one object (a def of one's own: SetO a S n := HO.ext fun h => ..) -/
  | ext (φ : Heap → Prop)
noncomputable abbrev Hp := Addr → Option HO
noncomputable def upd (H : Hp) (a : Addr) (o : HO) : Hp := fun b => if b = a then some o else H b
theorem upd_same {H : Hp} {a : Addr} {o : HO} : upd H a o a = some o := by unfold upd; rw [if_pos rfl]
theorem upd_ne {H : Hp} {a b : Addr} {o : HO} (h : b ≠ a) : upd H a o b = H b := by unfold upd; rw [if_neg h]
theorem upd_upd {H : Hp} {a : Addr} {o u : HO} : upd (upd H a o) a u = upd H a u := by
  funext b; unfold upd; split <;> rfl
theorem ne_of {H : Hp} {a b : Addr} {o u : HO} (h : H a = some o) (h' : H b = some u) (d : o ≠ u) : a ≠ b := by
  intro e; subst e; rw [h] at h'; exact d (Option.some.inj h')
theorem ne_of_none {H : Hp} {a b : Addr} {o : HO} (h : H a = some o) (h' : H b = none) : a ≠ b := by
  intro e; subst e; rw [h] at h'; cases h'
section
variable (P : Program) (w : World)
noncomputable def ObjOk (H : Hp) (h : Heap) (a : Addr) : HO → Prop
  | .lst xs => xs.length ≤ sizeLine ∧ ∃ (its : List Value) (n : Nat), Vals xs its ∧ h.get? a = some { cls := .type "list", data := .seq its.toArray n }
  | .tup xs => (xs.length ≤ sizeLine ∧ ∃ o, h.get? a = some o ∧ o.dict = none) ∧ ∃ its : List Value, Vals xs its ∧ IsTup h a its.toArray
  | .dK kvs => kvs.length ≤ sizeLine ∧ (a == sysModules) = false ∧ ∃ vs, KV kvs vs ∧ h.DictOf (mixKind P w) a vs
  | .dT kvs => kvs.length ≤ sizeLine ∧ (a == sysModules) = false ∧ ∃ xs : List (List Key × Addr × Value),
      Paired (fun (p : List Key × V) (q : List Key × Addr × Value) => p.1 = q.1 ∧ H q.2.1 = some (.tup (p.1.map kV)) ∧ RelV p.2 q.2.2) kvs xs ∧
      ∃ o es ep, h.get? a = some o ∧ o.ExactDict ∧ o.data = .dict es ep ∧ es.toList = xs.map (entryOfKey (tupleKind (mixKind P w))) ∧ (xs.map (·.1)).Nodup
  | .set S n => h.SetOf (intKind P w) a S n
  | .ins C dx fs => H dx = some (.own a) ∧ fs.length ≤ 1000 ∧ dx ≠ a ∧ h.get? a = some (PySem.W.instObj C dx) ∧
      ∃ mA, h.Ns1 dx mA ∧ (∀ f, RelO (fs.lookup f) (mA f)) ∧ PySem.Within mA (fs.map (·.1))
  | .own _ => ∃ o, h.get? a = some o
  | .xd fs => ∃ mA, h.Ns1 a mA ∧ ∀ f, RelO (fs.lookup f) (mA f)
  | .rng lo hi => ∃ t u v, h.get? a = some { cls := .type "range", data := .fields #[.int lo t, .int hi u, .int 1 v] }
  | .frz o u => h.get? a = some o ∧ ObjOk H h a u
  | .tbl ps => h.get? a = some { cls := .none, data := .fields ps }
  | .met f x => h.get? a = some (PySem.W.methodObj (.ref f) (.ref x))
  | .ext φ => φ h ∧ (∃ o, h.get? a = some o) ∧ ∀ h1 h2 : Heap, φ h1 → (∀ o, h1.get? a = some o → h2.get? a = some o) → φ h2
noncomputable def HOk (H : Hp) (h : Heap) : Prop := ∀ a o, H a = some o → ObjOk P w H h a o
end
section
variable {P : Program} {w : World} {H H' : Hp} {h h' : Heap} {a : Addr} {o : HO}
theorem ObjOk.lt (x : ObjOk P w H h a o) : a < h.objs.size := by
  cases o with
  | lst xs => obtain ⟨_, _, _, _, e⟩ := x; exact Heap.lt_size e
  | tup xs => obtain ⟨_, _, _, p⟩ := x; exact p.lt
  | dK kvs => obtain ⟨_, _, _, _, o, _, _, e, -⟩ := x; exact Heap.lt_size e
  | dT kvs => obtain ⟨_, _, _, _, o, _, _, e, -⟩ := x; exact Heap.lt_size e
  | set S n => obtain ⟨o, _, _, _, e, -⟩ := x; exact Heap.lt_size e
  | ins C dx fs => obtain ⟨_, _, _, e, -⟩ := x; exact Heap.lt_size e
  | own y => obtain ⟨_, e⟩ := x; exact Heap.lt_size e
  | xd fs => obtain ⟨_, ⟨_, _, _, e, _⟩, -⟩ := x; exact Heap.lt_size e
  | rng lo hi => obtain ⟨_, _, _, e⟩ := x; exact Heap.lt_size e
  | frz ob u => obtain ⟨e, -⟩ := x; exact Heap.lt_size e
  | tbl ps => exact Heap.lt_size (show h.get? a = some _ from x)
  | met f y => exact Heap.lt_size (show h.get? a = some _ from x)
  | ext φ => obtain ⟨_, ⟨_, e⟩, -⟩ := x; exact Heap.lt_size e
theorem Paired.mapP {α β : Type} {F G : α → β → Prop} {l₁ : List α} {l₂ : List β} (h : Paired F l₁ l₂) (f : ∀ a b, F a b → G a b) : Paired G l₁ l₂ := by
  induction h with
  | nil => exact .nil
  | cons r _ ih => exact .cons (f _ _ r) ih
theorem ObjOk.stay (x : ObjOk P w H h a o) (k : ∀ b u, (b = a ∨ H b = some (.own a)) → h.get? b = some u → h'.get? b = some u)
    (ho : ∀ b, H b = some (.own a) → H' b = some (.own a)) (ht : ∀ b xs, H b = some (.tup xs) → H' b = some (.tup xs)) : ObjOk P w H' h' a o := by
  induction o with
  | lst xs => obtain ⟨z, its, n, r, e⟩ := x; exact ⟨z, its, n, r, k _ _ (.inl rfl) e⟩
  | tup xs => obtain ⟨⟨z, o2, e2, d2⟩, its, r, ob, e, c⟩ := x; exact ⟨⟨z, o2, k _ _ (.inl rfl) e2, d2⟩, its, r, ob, k _ _ (.inl rfl) e, c⟩
  | dK kvs => obtain ⟨z, y, vs, r, ob, es, ep, e, c⟩ := x; exact ⟨z, y, vs, r, ob, es, ep, k _ _ (.inl rfl) e, c⟩
  | dT kvs =>
    obtain ⟨z, y, xs, r, ob, es, ep, e, c⟩ := x
    exact ⟨z, y, xs, Paired.mapP r fun p q z => ⟨z.1, ht _ _ z.2.1, z.2.2⟩, ob, es, ep, k _ _ (.inl rfl) e, c⟩
  | set S n => obtain ⟨ob, es, ep, t, e, c⟩ := x; exact ⟨ob, es, ep, t, k _ _ (.inl rfl) e, c⟩
  | ins C dx fs =>
    obtain ⟨d, z, ne, e, mA, ⟨od, es, ep, e2, c⟩, r⟩ := x
    exact ⟨ho _ d, z, ne, k _ _ (.inl rfl) e, mA, ⟨od, es, ep, k _ _ (.inr d) e2, c⟩, r⟩
  | own y => obtain ⟨ob, e⟩ := x; exact ⟨ob, k _ _ (.inl rfl) e⟩
  | xd fs => obtain ⟨mA, ⟨od, es, ep, e, c⟩, r⟩ := x; exact ⟨mA, ⟨od, es, ep, k _ _ (.inl rfl) e, c⟩, r⟩
  | rng lo hi => obtain ⟨t, u, v, e⟩ := x; exact ⟨t, u, v, k _ _ (.inl rfl) e⟩
  | frz ob u ih => obtain ⟨e, q⟩ := x; exact ⟨k _ _ (.inl rfl) e, ih q⟩
  | tbl ps =>
    have e : h.get? a = some { cls := .none, data := .fields ps } := x
    show h'.get? a = some { cls := .none, data := .fields ps }
    exact k a _ (.inl rfl) e
  | met f y =>
    have e : h.get? a = some (PySem.W.methodObj (.ref f) (.ref y)) := x
    show h'.get? a = some (PySem.W.methodObj (.ref f) (.ref y))
    exact k a _ (.inl rfl) e
  | ext φ => obtain ⟨p, ⟨o, e⟩, st⟩ := x; exact ⟨st _ _ p fun o q => k _ _ (.inl rfl) q, ⟨o, k _ _ (.inl rfl) e⟩, st⟩
theorem HOk.lt (x : HOk P w H h) (e : H a = some o) : a < h.objs.size := (x a o e).lt
theorem HOk.fresh (x : HOk P w H h) (e : h.objs.size ≤ a) : H a = none := by
  cases q : H a with
  | none => rfl
  | some u => exact absurd (Nat.lt_of_lt_of_le (x.lt q) e) (Nat.lt_irrefl _)
theorem HOk.kept (x : HOk P w H h) (k : ∀ b u, h.get? b = some u → h'.get? b = some u) : HOk P w H h' := fun a o e =>
  (x a o e).stay (fun b u _ q => k b u q) (fun _ q => q) fun _ _ q => q
theorem HOk.laid (x : HOk P w H h) (k : ∀ b u, h.get? b = some u → h'.get? b = some u) (hp : h.objs.size ≤ a) (new : ObjOk P w (upd H a o) h' a o) : HOk P w (upd H a o) h' := fun b u e => by
  have hn := x.fresh hp
  by_cases hb : b = a
  · subst hb; rw [upd_same] at e; cases e; exact new
  · rw [upd_ne hb] at e
    exact (x b u e).stay (fun c v _ q => k c v q) (fun c q => by rw [upd_ne (ne_of_none q hn)]; exact q) fun c xs q => by rw [upd_ne (ne_of_none q hn)]; exact q
end
noncomputable def Rd (H : Hp) (a : Addr) (u : HO) : Prop := H a = some u ∨ ∃ o, H a = some (.frz o u)
theorem Rd.ok {P : Program} {w : World} {H : Hp} {h : Heap} {a : Addr} {u : HO} (r : Rd H a u) (x : HOk P w H h) : ObjOk P w H h a u := by
  rcases r with r | ⟨o, r⟩
  · exact x a u r
  · obtain ⟨_, q⟩ := x a _ r
    exact q
noncomputable def Mut : Option HO → Prop
  | some (.lst _) => True
  | some (.dK _) => True
  | some (.dT _) => True
  | some (.set _ _) => True
  | some (.ins _ _ _) => True
  | some (.ext _) => True
  | _ => False
section
variable {P : Program} {w : World} {H : Hp} {h h' : Heap} {x e : Addr} {o' : HO}
theorem HOk.write (ok : HOk P w H h) (mu : Mut (H x)) (he : e = x ∨ H e = some (.own x)) (k : ∀ b u, b ≠ e → h.get? b = some u → h'.get? b = some u) (heo : ∃ u, h'.get? e = some u)
    (new : ObjOk P w (upd H x o') h' x o') : HOk P w (upd H x o') h' := fun b u q => by
  have nown : ∀ c y, H c = some (.own y) → c ≠ x := fun c y r z => by subst z; rw [r] at mu; exact mu
  have ntup : ∀ c xs, H c = some (.tup xs) → c ≠ x := fun c xs r z => by subst z; rw [r] at mu; exact mu
  by_cases hb : b = x
  · subst hb; rw [upd_same] at q; cases q; exact new
  · rw [upd_ne hb] at q
    by_cases hbe : b = e
    · have q' : H b = some (.own x) := by
        rcases he with z | z
        · exact absurd (hbe.trans z) hb
        · rw [hbe]; exact z
      rw [q] at q'; cases q'
      obtain ⟨v, hv⟩ := heo
      exact ⟨v, by rw [hbe]; exact hv⟩
    · refine (ok b u q).stay (fun c v hc r => k c v ?_ r) (fun c r => by rw [upd_ne (nown c b r)]; exact r) fun c xs r => by rw [upd_ne (ntup c xs r)]; exact r
      rcases hc with rfl | hc
      · exact hbe
      · rintro rfl
        rcases he with z | z
        · exact nown c b hc z
        · rw [hc] at z; cases z; exact hb rfl
end
structure Un (fs ex : List Addr) (H H' : Hp) (h h' : Heap) : Prop where
  keep : ∀ b o, h.get? b = some o → H b = none → b ∉ fs → b ∉ ex → h'.get? b = some o
  slot : ∀ b o, h.get? b = some o → H b = none → b ∈ fs → b ∉ ex → ∃ sl, h'.get? b = some { o with slots := sl }
  free : ∀ b o, h.get? b = some o → H b = none → b ∉ ex → H' b = none
  there : ∀ b o, h.get? b = some o → b ∉ ex → ∃ o', h'.get? b = some o'
  tups : ∀ b xs, H b = some (.tup xs) → H' b = some (.tup xs)
  frzs : ∀ b o u, H b = some (.frz o u) → H' b = some (.frz o u)
  tbls : ∀ b ps, H b = some (.tbl ps) → ∃ more, H' b = some (.tbl (ps ++ more))
section
variable {fs fs' ex ex' : List Addr} {H H1 H2 : Hp} {h h1 h2 h' : Heap} {a x e : Addr} {o : HO}
theorem Un.any (u : Un fs ex H H1 h h1) {b : Addr} {ob : Obj} (q : h.get? b = some ob) (n : H b = none) (hx : b ∉ ex) : ∃ sl, h1.get? b = some { ob with slots := sl } := by
  by_cases hb : b ∈ fs
  · exact u.slot b ob q n hb hx
  · exact ⟨ob.slots, u.keep b ob q n hb hx⟩
theorem Un.kept (k : ∀ b u, h.get? b = some u → h'.get? b = some u) : Un fs ex H H h h' :=
  ⟨fun b ob q _ _ _ => k b ob q, fun b ob q _ _ _ => ⟨ob.slots, k b ob q⟩, fun _ _ _ n _ => n, fun b ob q _ => ⟨ob, k b ob q⟩, fun _ _ q => q, fun _ _ _ q => q, fun _ ps q => ⟨#[], by rw [q]; simp⟩⟩
theorem Un.refl : Un fs ex H H h h := Un.kept fun _ _ q => q
theorem Un.laid (k : ∀ b u, h.get? b = some u → h'.get? b = some u) (hp : h.objs.size ≤ a) (hn : H a = none) : Un fs ex H (upd H a o) h h' where
  keep := fun b u q _ _ _ => k b u q
  slot := fun b u q _ _ _ => ⟨u.slots, k b u q⟩
  free := fun b u q n _ => by rw [upd_ne (Nat.ne_of_lt (Nat.lt_of_lt_of_le (Heap.lt_size q) hp))]; exact n
  there := fun b u q _ => ⟨u, k b u q⟩
  tups := fun b xs q => by rw [upd_ne (ne_of_none q hn)]; exact q
  frzs := fun b u xs q => by rw [upd_ne (ne_of_none q hn)]; exact q
  tbls := fun b ps q => ⟨#[], by rw [upd_ne (ne_of_none q hn), q]; simp⟩
theorem Un.write (mu : Mut (H x)) (he : e = x ∨ H e = some (.own x)) (k : ∀ b u, b ≠ e → h.get? b = some u → h'.get? b = some u) (heo : ∃ u, h'.get? e = some u) : Un fs ex H (upd H x o) h h' := by
  have hx : ∀ b, H b = none → b ≠ x := fun b n z => by subst z; rw [n] at mu; exact mu
  have hb : ∀ b, H b = none → b ≠ e := fun b n z => by
    subst z
    rcases he with r | r
    · exact hx b n r
    · rw [n] at r; cases r
  have hm : ∀ b u, H b = some u → ¬ Mut (some u) → b ≠ x := fun b u q nm z => by subst z; rw [q] at mu; exact nm mu
  refine ⟨fun b u q n _ _ => k b u (hb b n) q, fun b u q n _ _ => ⟨u.slots, k b u (hb b n) q⟩, fun b u q n _ => by rw [upd_ne (hx b n)]; exact n, fun b u q _ => ?_,
    fun b xs q => by rw [upd_ne (hm b _ q fun z => z)]; exact q, fun b u xs q => by rw [upd_ne (hm b _ q fun z => z)]; exact q, fun b ps q => ⟨#[], by rw [upd_ne (hm b _ q fun z => z), q]; simp⟩⟩
  by_cases hbe : b = e
  · subst hbe; exact heo
  · exact ⟨u, k b u hbe q⟩
end
noncomputable def trk (h : Heap) (H : Hp) : List Addr := (List.range h.objs.size).filter fun a => (H a).isSome
noncomputable def hidT (h : Heap) (H : Hp) : Heap := PySem.W.hideAll h (trk h H)
theorem hidT_size (h : Heap) (H : Hp) : (hidT h H).objs.size = h.objs.size := PySem.W.hideAll_size _ _
theorem hidT_get {h : Heap} {H : Hp} {b : Addr} {o : Obj} (e : h.get? b = some o) (n : H b = none) : (hidT h H).get? b = some o :=
  PySem.W.hideAll_get _ e fun hm => by
    have q : (H b).isSome = true := (List.mem_filter.mp hm).2
    rw [n] at q; simp at q
theorem of_hidT {h : Heap} {H : Hp} {b : Addr} {o : Obj} (e : (hidT h H).get? b = some o) : h.get? b = some o ∧ H b = none := by
  have e' : h.get? b = some o := PySem.W.of_hideAll (trk h H) e
  refine ⟨e', ?_⟩
  cases q : H b with
  | none => rfl
  | some x =>
    have hm : b ∈ trk h H := List.mem_filter.mpr ⟨List.mem_range.mpr (Heap.lt_size e'), by simp [q]⟩
    have z : (hidT h H).get? b = none := PySem.W.hideAll_none (trk h H) hm
    rw [z] at e; cases e
noncomputable def allNews (g h : Heap) (L : Addr) : List (Addr × Obj) := (List.range h.objs.size).filterMap fun a => if a = L ∨ (g.get? a).isSome = true then none else (h.get? a).map fun o => (a, o)
theorem mem_allNews {g h : Heap} {L a : Addr} {o : Obj} (h1 : a ≠ L) (h2 : g.get? a = none) (h3 : h.get? a = some o) : (a, o) ∈ allNews g h L :=
  List.mem_filterMap.mpr ⟨a, List.mem_range.mpr (Heap.lt_size h3), by simp [h1, h2, h3]⟩
theorem of_mem_allNews {g h : Heap} {L : Addr} {p : Addr × Obj} (hp : p ∈ allNews g h L) : p.1 ≠ L ∧ g.get? p.1 = none ∧ h.get? p.1 = some p.2 := by
  obtain ⟨b, _, e⟩ := List.mem_filterMap.mp hp
  split at e
  · cases e
  · rename_i hn
    cases q : h.get? b with
    | none => rw [q] at e; simp at e
    | some u =>
      rw [q] at e
      simp only [Option.map_some, Option.some.injEq] at e
      subst e
      refine ⟨fun z => hn (.inl z), ?_, q⟩
      show g.get? b = none
      cases r : g.get? b with
      | none => rfl
      | some v => exact (hn (.inr (by simp [r]))).elim
theorem news_all {g h : Heap} {L : Addr} : News g L h (allNews g h L) := fun p hp => let ⟨a, b, c⟩ := of_mem_allNews hp; ⟨c, a, b⟩
end L2
namespace L2
open PySem PySem.Spec PyProof.Rows
structure Mod (K : PySem.W.Frag) (mg : Str → Option Value) (base : Heap) : Prop where
  kin : K.In base
  glob : base.Ns mainGlobals mg
  blt : ∃ mb, base.Ns builtinsNs mb ∧ ∀ x : Str, x ≠ "__name__" → mb x = bootBuiltins x
  nolimit : base.NoLimit
structure Cx where
  prog : Program
  w : World
  K : PySem.W.Frag
  mg : Str → Option Value
  base : Heap
  A : Around
  N : List Str
  s₀ : Shared
  H₀ : Hp
  env : Env
  outer : List Env
  stack : List Env
  ex : List Addr
  fn : Str → Bool
  calm : Bool
  pn : List (Addr × Obj)
  xe : Value → Shared → Prop
noncomputable def frs (l : List Env) : List Addr := l.filterMap (·.frame)
noncomputable abbrev Cx.fs (X : Cx) : List Addr := frs X.outer
noncomputable def Vis (sc : Scope) (x : Str) : Prop := sc.names.lookup x = some .local ∨ sc.names.lookup x = some .cell ∨ sc.names.lookup x = some .free
noncomputable def Loc (sc : Scope) (x : Str) : Prop := sc.names.lookup x = some .local ∨ sc.names.lookup x = some .cell
noncomputable def Look (env : Env) (h : Heap) (m : Str → Option Value) (x : Str) (u : Value) : Prop :=
  (env.kindOf x = some .local ∧ m x = some u) ∨ ((env.kindOf x = some .cell ∨ env.kindOf x = some .free) ∧ ∃ c, env.cells.lookup x = some c ∧ h.IsCell c (some u))
structure Cx.Ok (X : Cx) : Prop where
  mod : Mod X.K X.mg X.base
  kind : X.env.scope.kind = .function
  glob : X.env.globals = mainGlobals
  blt : X.env.builtins = builtinsNs
  above : X.s₀.heap.objs.size ≤ X.env.locals
  inj : ∀ x y c, X.env.cells.lookup x = some c → X.env.cells.lookup y = some c → x = y
  has : ∀ x, (X.env.kindOf x = some .cell ∨ X.env.kindOf x = some .free) → ∃ c, X.env.cells.lookup x = some c
  cab : ∀ x c, X.fn x = true → X.env.cells.lookup x = some c → X.s₀.heap.objs.size ≤ c
  hd : X.calm = true → X.A.handled = none
  frames : X.A.frames = some X.stack
  stk : X.stack = X.outer ∨ (X.stack = X.env :: X.outer ∧ X.env.frame = some X.env.locals)
  exf : ∀ b ∈ X.ex, b ≠ X.env.locals ∧ ∀ x c, X.env.cells.lookup x = some c → c ≠ b
  bs : ∀ b o, X.base.get? b = some o → X.s₀.heap.get? b = some o ∧ X.H₀ b = none
  bsz : X.base.objs.size ≤ X.s₀.heap.objs.size
  noex : ∀ b o, X.base.get? b = some o → b ∉ X.ex
  exfs : ∀ b ∈ X.ex, b ∉ X.fs
  funs : X.s₀.heap.FunFrames X.base X.outer
  frf : ∀ b ∈ X.fs, X.H₀ b = none
structure Inv (X : Cx) (pins : List (Addr × Obj)) (σ : List (Option V)) (H : Hp) (s : Shared) : Prop where
  ok : X.Ok
  os : s.os = X.s₀.os
  bare : AllBare s.gens
  base : Un X.fs X.ex X.H₀ H X.s₀.heap s.heap
  loc : ∃ m, s.heap.Ns X.env.locals m ∧ ∀ (i : Nat) (x : Str) (v : V), X.N[i]? = some x → σ[i]? = some (some v) → Vis X.env.scope x → ∃ u, RelV v u ∧ Look X.env s.heap m x u
  cell : ∀ x c, X.env.cells.lookup x = some c → ∃ v, s.heap.IsCell c v
  free : H X.env.locals = none
  freeC : ∀ x c, X.env.cells.lookup x = some c → H c = none
  pin : ∀ p ∈ X.pn ++ pins, s.heap.get? p.1 = some p.2 ∧ H p.1 = none ∧ p.1 ≠ X.env.locals ∧ p.1 ∉ X.fs ∧ ∀ v, p.2.data ≠ .cell v
  hok : HOk X.prog X.w H s.heap
  len : σ.length = X.N.length
section
variable {X : Cx} {pins : List (Addr × Obj)} {σ : List (Option V)} {H H' : Hp} {s : Shared} {h' : Heap}
theorem Cx.Ok.nofr (ok : X.Ok) {b : Addr} {o : Obj} (e : X.base.get? b = some o) : b ∉ X.fs := fun hb => by
  have := (ok.funs.mem hb).1
  rw [e] at this; cases this
theorem Inv.bs (I : Inv X pins σ H s) : ∀ b o, X.base.get? b = some o → s.heap.get? b = some o ∧ H b = none := fun b o e =>
  ⟨I.base.keep b o (I.ok.bs b o e).1 (I.ok.bs b o e).2 (I.ok.nofr e) (I.ok.noex b o e), I.base.free b o (I.ok.bs b o e).1 (I.ok.bs b o e).2 (I.ok.noex b o e)⟩
theorem Inv.bk (I : Inv X pins σ H s) : ∀ b o, X.base.get? b = some o → s.heap.get? b = some o := fun b o e => (I.bs b o e).1
theorem Inv.mod (I : Inv X pins σ H s) : Mod X.K X.mg X.base := I.ok.mod
theorem Inv.kIn (I : Inv X pins σ H s) : X.K.In s.heap := I.ok.mod.kin.keeps I.bk
theorem Inv.fr (I : Inv X pins σ H s) : ∃ m, Fr X.base X.env.locals s.heap m :=
  let ⟨m, hn, _⟩ := I.loc
  ⟨m, hn, I.bk, Nat.le_trans I.ok.bsz I.ok.above⟩
theorem Inv.lt (I : Inv X pins σ H s) : X.env.locals < s.heap.objs.size := let ⟨_, hn, _⟩ := I.loc; hn.lt
theorem Inv.sz (I : Inv X pins σ H s) : X.s₀.heap.objs.size ≤ s.heap.objs.size := Nat.le_trans I.ok.above (Nat.le_of_lt I.lt)
theorem Inv.nofs (I : Inv X pins σ H s) {a : Addr} (h : s.heap.objs.size ≤ a) : a ∉ X.fs := fun hb => by
  obtain ⟨_, o, ho, -⟩ := I.ok.funs.mem hb
  exact absurd (Nat.lt_of_lt_of_le (Heap.lt_size ho) (Nat.le_trans I.sz h)) (Nat.lt_irrefl _)
theorem Inv.cne (I : Inv X pins σ H s) : ∀ x c, X.env.cells.lookup x = some c → c ≠ X.env.locals := fun x c e z => by
  obtain ⟨v, o, ho, hd⟩ := I.cell x c e
  obtain ⟨m, ⟨o', es, ep, ho', hd', _⟩, -⟩ := I.loc
  rw [z, ho'] at ho; cases ho; rw [hd'] at hd; cases hd
theorem Inv.funs (I : Inv X pins σ H s) : s.heap.FunFrames X.base X.outer := by
  have all : ∀ (l : List Env), (∀ b ∈ frs l, b ∈ X.fs) → X.s₀.heap.FunFrames X.base l → s.heap.FunFrames X.base l := by
    intro l
    induction l with
    | nil => intro _ _; trivial
    | cons env r ih =>
      intro hs hl
      obtain ⟨hk, ⟨L, o, hf, hn, ho, hd⟩, hr⟩ := hl
      have hL : L ∈ X.fs := hs L (by unfold frs; rw [List.filterMap_cons, hf]; exact List.mem_cons_self)
      obtain ⟨sl, e⟩ := I.base.slot L o ho (I.ok.frf L hL) hL fun z => I.ok.exfs L z hL
      exact ⟨hk, ⟨L, _, hf, hn, e, hd⟩, ih (fun b hb => hs b (by unfold frs; rw [List.filterMap_cons, hf]; exact List.mem_cons_of_mem _ hb)) hr⟩
  exact all X.outer (fun _ hb => hb) I.ok.funs
theorem Inv.stack (I : Inv X pins σ H s) : s.heap.FunFrames X.base X.stack := by
  rcases I.ok.stk with e | ⟨e, hf⟩
  · rw [e]; exact I.funs
  · rw [e]
    obtain ⟨m, hn, -⟩ := I.loc
    refine .cons (by rw [I.ok.kind]; decide) hf hn ?_ I.funs
    exact Heap.get?_none_of_le (Nat.le_trans I.ok.bsz I.ok.above)
theorem Inv.stkSub (I : Inv X pins σ H s) : ∀ b ∈ frs X.stack, b ∈ X.env.locals :: X.fs := fun b hb => by
  rcases I.ok.stk with e | ⟨e, hf⟩
  · rw [e] at hb; exact List.mem_cons_of_mem _ hb
  · rw [e] at hb
    unfold frs at hb
    rw [List.filterMap_cons, hf] at hb
    exact hb
theorem Inv.stkFree (I : Inv X pins σ H s) : ∀ b ∈ frs X.stack, H b = none := fun b hb => by
  rcases List.mem_cons.mp (I.stkSub b hb) with e | hb
  · rw [e]; exact I.free
  · obtain ⟨_, o, ho, -⟩ := I.ok.funs.mem hb
    exact I.base.free b o ho (I.ok.frf b hb) fun z => I.ok.exfs b z hb
theorem Inv.step {g' : Array GenState} {t' : Nat} {d' : Drawn} {ch : List Addr} (I : Inv X pins σ H s)
    (hch : ∀ b ∈ ch, (b ∈ X.ex ∨ X.s₀.heap.objs.size ≤ b) ∧ b ≠ X.env.locals ∧ (∀ x c, X.env.cells.lookup x = some c → c ≠ b) ∧ ∀ p ∈ X.pn ++ pins, p.1 ≠ b)
    (keep : ∀ b o, b ≠ X.env.locals → b ∉ X.fs → b ∉ ch → s.heap.get? b = some o → H b = none → h'.get? b = some o)
    (slot : ∀ b o, b ≠ X.env.locals → b ∈ X.fs → b ∉ ch → s.heap.get? b = some o → H b = none → ∃ sl, h'.get? b = some { o with slots := sl }) (free : ∀ b o, b ∉ ch → s.heap.get? b = some o → H b = none → H' b = none)
    (there : ∀ b o, b ∉ ch → s.heap.get? b = some o → ∃ o', h'.get? b = some o')
    (tups : ∀ b xs, H b = some (.tup xs) → H' b = some (.tup xs)) (frzs : ∀ b o u, H b = some (.frz o u) → H' b = some (.frz o u)) (tbls : ∀ b ps, H b = some (.tbl ps) → ∃ more, H' b = some (.tbl (ps ++ more)))
    (ns : ∀ m, s.heap.Ns X.env.locals m → h'.Ns X.env.locals m) (hok : HOk X.prog X.w H' h') (hg : AllBare g') :
    Inv X pins σ H' { s with heap := h', gens := g', drawn := d', toks := t' } := by
  have neL : ∀ b o, X.s₀.heap.get? b = some o → b ≠ X.env.locals := fun b o e => Nat.ne_of_lt (Nat.lt_of_lt_of_le (Heap.lt_size e) I.ok.above)
  have neC : ∀ b o, X.s₀.heap.get? b = some o → b ∉ X.ex → b ∉ ch := fun b o e hx hb => by
    rcases (hch b hb).1 with z | z
    · exact hx z
    · exact absurd (Nat.lt_of_lt_of_le (Heap.lt_size e) z) (Nat.lt_irrefl _)
  have cellK : ∀ x c, X.env.cells.lookup x = some c → ∀ v, s.heap.IsCell c v → h'.IsCell c v := fun x c e v ⟨o, ho, hd⟩ => by
    have nch : c ∉ ch := fun z => (hch c z).2.2.1 x c e rfl
    by_cases hc : c ∈ X.fs
    · obtain ⟨sl, q⟩ := slot c o (I.cne x c e) hc nch ho (I.freeC x c e)
      exact ⟨_, q, hd⟩
    · exact ⟨o, keep c o (I.cne x c e) hc nch ho (I.freeC x c e), hd⟩
  refine ⟨I.ok, I.os, hg, ⟨fun b o e n hb hx => ?_, fun b o e n hb hx => ?_, fun b o e n hx => ?_, fun b o e hx => ?_, fun b xs e => tups b xs (I.base.tups b xs e), fun b o xs e => frzs b o xs (I.base.frzs b o xs e), fun b ps e => ?_⟩, ?_, fun x c e => ?_, ?_, fun x c e => ?_, fun p hp => ?_, hok, I.len⟩
  · exact keep b o (neL b o e) hb (neC b o e hx) (I.base.keep b o e n hb hx) (I.base.free b o e n hx)
  · obtain ⟨sl, e1⟩ := I.base.slot b o e n hb hx
    obtain ⟨sl', e2⟩ := slot b _ (neL b o e) hb (neC b o e hx) e1 (I.base.free b o e n hx)
    exact ⟨sl', e2⟩
  · obtain ⟨o', e1⟩ := I.base.there b o e hx
    exact free b o' (neC b o e hx) e1 (I.base.free b o e n hx)
  · obtain ⟨o', e1⟩ := I.base.there b o e hx
    exact there b o' (neC b o e hx) e1
  · obtain ⟨m1, e1⟩ := I.base.tbls b ps e
    obtain ⟨m2, e2⟩ := tbls b _ e1
    exact ⟨m1 ++ m2, by rw [e2, Array.append_assoc]⟩
  · obtain ⟨m, hn, hl⟩ := I.loc
    refine ⟨m, ns m hn, fun i x v e1 e2 e3 => ?_⟩
    obtain ⟨u, r, l⟩ := hl i x v e1 e2 e3
    refine ⟨u, r, ?_⟩
    rcases l with l | ⟨k, c, e, z⟩
    · exact .inl l
    · exact .inr ⟨k, c, e, cellK x c e _ z⟩
  · obtain ⟨v, z⟩ := I.cell x c e
    exact ⟨v, cellK x c e v z⟩
  · obtain ⟨m, ⟨o, _, _, ho, _⟩, -⟩ := I.loc
    exact free _ o (fun z => (hch _ z).2.1 rfl) ho I.free
  · obtain ⟨v, o, ho, hd⟩ := I.cell x c e
    exact free c o (fun z => (hch c z).2.2.1 x c e rfl) ho (I.freeC x c e)
  · obtain ⟨e, n, ne, nf, d⟩ := I.pin p hp
    have nch : p.1 ∉ ch := fun z => (hch p.1 z).2.2.2 p hp rfl
    exact ⟨keep p.1 p.2 ne nf nch e n, free p.1 p.2 nch e n, ne, nf, d⟩
theorem Inv.un {t' : Nat} (I : Inv X pins σ H s) (u : Un X.fs [] H H' s.heap h') (hok : HOk X.prog X.w H' h') : Inv X pins σ H' { s with heap := h', toks := t' } := by
  obtain ⟨m, ⟨o, es, ep, ho, r⟩, -⟩ := id I.loc
  obtain ⟨sl, hL⟩ := u.any ho I.free (by simp)
  exact I.step (g' := s.gens) (d' := s.drawn) (ch := []) (fun _ z => nomatch z) (fun b o _ hb _ e n => u.keep b o e n hb (by simp)) (fun b o _ hb _ e n => u.slot b o e n hb (by simp)) (fun b o _ e n => u.free b o e n (by simp)) (fun b o _ e => u.there b o e (by simp)) u.tups u.frzs u.tbls (fun m' hm => by
    obtain ⟨o', es', ep', ho', r'⟩ := hm
    rw [ho] at ho'; cases ho'
    exact ⟨_, es', ep', hL, r'⟩) hok I.bare
theorem Inv.call {g' : Array GenState} {t' : Nat} {d' : Drawn} {ch : List Addr} (I : Inv X pins σ H s) (u : Un (frs X.stack) ch H H' s.heap h') (hok : HOk X.prog X.w H' h') (hg : AllBare g')
    (hch : ∀ b ∈ ch, (b ∈ X.ex ∨ X.s₀.heap.objs.size ≤ b) ∧ b ≠ X.env.locals ∧ (∀ x c, X.env.cells.lookup x = some c → c ≠ b) ∧ ∀ p ∈ X.pn ++ pins, p.1 ≠ b) :
    Inv X pins σ H' { s with heap := h', gens := g', drawn := d', toks := t' } := by
  obtain ⟨m, ⟨o, es, ep, ho, r⟩, -⟩ := id I.loc
  obtain ⟨sl, hL⟩ := u.any ho I.free fun z => (hch _ z).2.1 rfl
  exact I.step (ch := ch) hch (fun b o hL hb hc e n => u.keep b o e n (fun z => (List.mem_cons.mp (I.stkSub b z)).elim hL hb) hc) (fun b o _ _ hc e n => u.any e n hc) (fun b o hc e n => u.free b o e n hc) (fun b o hc e => u.there b o e hc) u.tups u.frzs u.tbls (fun m' hm => by
    obtain ⟨o', es', ep', ho', r'⟩ := hm
    rw [ho] at ho'; cases ho'
    exact ⟨_, es', ep', hL, r'⟩) hok hg
theorem Inv.turned {t' : Nat} {it : Addr} (I : Inv X pins σ H s) (k : ∀ b o, b ≠ it → s.heap.get? b = some o → h'.get? b = some o) (hn : H it = none) (hL : it ≠ X.env.locals)
    (h1 : it ∈ X.ex ∨ X.s₀.heap.objs.size ≤ it) (h2 : ∀ x c, X.env.cells.lookup x = some c → c ≠ it) (h3 : ∀ p ∈ X.pn ++ pins, p.1 ≠ it) : Inv X pins σ H { s with heap := h', toks := t' } := by
  have nit : ∀ b u, H b = some u → b ≠ it := fun b u e z => by rw [z, hn] at e; cases e
  refine I.step (g' := s.gens) (d' := s.drawn) (ch := [it]) (fun b hb => ?_) (fun b o _ _ hc e _ => k b o (fun z => hc (by simp [z])) e) (fun b o _ _ hc e _ => ⟨o.slots, k b o (fun z => hc (by simp [z])) e⟩) (fun _ _ _ _ n => n)
    (fun b o hc e => ⟨o, k b o (fun z => hc (by simp [z])) e⟩) (fun _ _ e => e) (fun _ _ _ e => e) (fun b ps e => ⟨#[], by rw [e]; simp⟩) (fun m hm => ?_) (fun b u e => ?_) I.bare
  · have e : b = it := by simpa using hb
    subst e
    exact ⟨h1, hL, h2, h3⟩
  · obtain ⟨o, es, ep, ho, r⟩ := hm
    exact ⟨o, es, ep, k _ o (Ne.symm hL) ho, r⟩
  · refine (I.hok b u e).stay (fun c v hc q => k c v ?_ q) (fun _ q => q) fun _ _ q => q
    rcases hc with z | z
    · rw [z]; exact nit b u e
    · exact nit c _ z
theorem Inv.tok (I : Inv X pins σ H s) (t : Nat) : Inv X pins σ H { s with toks := t } := I.un (h' := s.heap) (t' := t) Un.refl I.hok
theorem Inv.kept {t' : Nat} (I : Inv X pins σ H s) (k : ∀ b u, s.heap.get? b = some u → h'.get? b = some u) : Inv X pins σ H { s with heap := h', toks := t' } := I.un (Un.kept k) (I.hok.kept k)
theorem Inv.laid {a : Addr} {o : HO} {t' : Nat} (I : Inv X pins σ H s) (k : ∀ b u, s.heap.get? b = some u → h'.get? b = some u) (hp : s.heap.objs.size ≤ a) (new : ObjOk X.prog X.w (upd H a o) h' a o) :
    Inv X pins σ (upd H a o) { s with heap := h', toks := t' } := I.un (Un.laid k hp (I.hok.fresh hp)) (I.hok.laid k hp new)
theorem Inv.write {x e : Addr} {o : HO} {t' : Nat} (I : Inv X pins σ H s) (mu : Mut (H x)) (he : e = x ∨ H e = some (.own x)) (k : ∀ b u, b ≠ e → s.heap.get? b = some u → h'.get? b = some u) (heo : ∃ u, h'.get? e = some u)
    (new : ObjOk X.prog X.w (upd H x o) h' x o) : Inv X pins σ (upd H x o) { s with heap := h', toks := t' } := I.un (Un.write mu he k heo) (I.hok.write mu he k heo new)
theorem Inv.weak {σ' : List (Option V)} (I : Inv X pins σ H s) (hl : σ'.length = σ.length) (w : ∀ (i : Nat) v, σ'[i]? = some (some v) → σ[i]? = some (some v)) : Inv X pins σ' H s :=
  ⟨I.ok, I.os, I.bare, I.base, let ⟨m, hn, hl'⟩ := I.loc; ⟨m, hn, fun i x v e1 e2 e3 => hl' i x v e1 (w i v e2) e3⟩, I.cell, I.free, I.freeC, I.pin, I.hok, hl.trans I.len⟩
theorem Inv.pins_of {pins' : List (Addr × Obj)} (I : Inv X pins σ H s) (h : ∀ p ∈ pins', s.heap.get? p.1 = some p.2 ∧ H p.1 = none ∧ p.1 ≠ X.env.locals ∧ p.1 ∉ X.fs ∧ ∀ v, p.2.data ≠ .cell v) : Inv X pins' σ H s :=
  ⟨I.ok, I.os, I.bare, I.base, I.loc, I.cell, I.free, I.freeC, fun p hp => (List.mem_append.mp hp).elim (fun z => I.pin p (List.mem_append_left _ z)) (h p), I.hok, I.len⟩
theorem nodup_ix {N : List Str} (hN : N.Nodup) {i j : Nat} {x : Str} (a : N[i]? = some x) (b : N[j]? = some x) : i = j := by
  obtain ⟨h1, e1⟩ := List.getElem?_eq_some_iff.mp a
  obtain ⟨h2, e2⟩ := List.getElem?_eq_some_iff.mp b
  exact (List.getElem_inj hN).mp (e1.trans e2.symm)
theorem store_ok2 {M : Model} {A : Around} {E : Value → Shared → Prop} {i : Nat} {x : Str} {v : V} {u : Value} {Q : Unit → Shared → Prop} (I : Inv X pins σ H s) (hN : X.N.Nodup) (hi : X.N[i]? = some x) (hx : Loc X.env.scope x) (r : RelV v u)
    (h : ∀ s', Inv X pins (σ.set i (some v)) H s' → (∃ a, Heap.SameBut a s.heap s'.heap ∧ (a = X.env.locals ∨ X.env.cells.lookup x = some a)) → Q () s') (hf : X.fn x = true ∨ X.env.scope.names.lookup x = some .local := by first | exact .inl rfl | exact .inr rfl | assumption) : wpAny M A (storeName X.env x u) Q E s := by
  obtain ⟨m, hn, hl⟩ := id I.loc
  have hcls : (X.env.scope.kind == .class || (X.env.scope.kind == .module && X.env.locals != X.env.globals)) = false := by rw [I.ok.kind]; rfl
  have hiσ : i < σ.length := by rw [I.len]; exact (List.getElem?_eq_some_iff.mp hi).1
  have cne := I.cne
  have tracked : ∀ {a : Addr} {h' : Heap}, (∃ o, s.heap.get? a = some o ∧ H a = none) → Heap.SameBut a s.heap h' → HOk X.prog X.w H h' := fun {a h'} ha hs b ob e => by
    obtain ⟨_, _, hfree⟩ := ha
    refine (I.hok b ob e).stay (fun c w' hc q => (hs.2 c ?_).trans q) (fun _ q => q) fun _ _ q => q
    rintro rfl
    rcases hc with rfl | hc
    · rw [hfree] at e; cases e
    · rw [hfree] at hc; cases hc
  rcases hx with hk | hk
  · refine wpAny_storeName_local hk hn (fun h' hn' hs => ?_) hcls
    obtain ⟨oL, _, _, hoL, -⟩ := id hn
    refine h _ ⟨I.ok, I.os, I.bare, ⟨fun b o e n hb hx => ?_, fun b o e n hb hx => ?_, I.base.free, fun b o e hx => ?_, I.base.tups, I.base.frzs, I.base.tbls⟩, ⟨_, hn', fun j y v' e1 e2 e3 => ?_⟩, fun y c e => ?_, I.free, I.freeC, fun p hp => ?_, tracked ⟨oL, hoL, I.free⟩ hs, by simpa using I.len⟩ ⟨_, hs, .inl rfl⟩
    · exact (hs.2 b (Nat.ne_of_lt (Nat.lt_of_lt_of_le (Heap.lt_size e) I.ok.above))).trans (I.base.keep b o e n hb hx)
    · obtain ⟨sl, e1⟩ := I.base.slot b o e n hb hx
      exact ⟨sl, (hs.2 b (Nat.ne_of_lt (Nat.lt_of_lt_of_le (Heap.lt_size e) I.ok.above))).trans e1⟩
    · obtain ⟨o', e1⟩ := I.base.there b o e hx
      exact ⟨o', (hs.2 b (Nat.ne_of_lt (Nat.lt_of_lt_of_le (Heap.lt_size e) I.ok.above))).trans e1⟩
    · by_cases hj : j = i
      · subst hj
        rw [hi] at e1; cases e1
        rw [List.getElem?_set_self hiσ] at e2
        cases e2
        exact ⟨u, r, .inl ⟨hk, by simp⟩⟩
      · rw [List.getElem?_set_ne (Ne.symm hj)] at e2
        obtain ⟨u', r', q⟩ := hl j y v' e1 e2 e3
        refine ⟨u', r', ?_⟩
        rcases q with ⟨k, e⟩ | ⟨k, c, e, z⟩
        · refine .inl ⟨k, ?_⟩
          have : y ≠ x := fun e => hj (nodup_ix hN e1 (e ▸ hi))
          simp [this, e]
        · exact .inr ⟨k, c, e, z.sameBut hs (cne y c e)⟩
    · obtain ⟨w', z⟩ := I.cell y c e
      exact ⟨w', z.sameBut hs (cne y c e)⟩
    · obtain ⟨e, n, ne, nf, d⟩ := I.pin p hp
      exact ⟨(hs.2 p.1 ne).trans e, n, ne, nf, d⟩
  · have hfn : X.fn x = true := by
      rcases hf with z | z
      · exact z
      · rw [z] at hk; cases hk
    obtain ⟨c, hc⟩ := I.ok.has x (.inl hk)
    obtain ⟨w', z⟩ := I.cell x c hc
    refine wpAny_storeName_cell I.ok.kind hk hc z (fun h' hc' hs => ?_)
    obtain ⟨oc, hoc, hocd⟩ := id z
    refine h { s with heap := h' } ⟨I.ok, I.os, I.bare, ⟨fun b o e n hb hx => ?_, fun b o e n hb hx => ?_, I.base.free, fun b o e hx => ?_, I.base.tups, I.base.frzs, I.base.tbls⟩, ⟨m, hn.sameBut hs (Ne.symm (cne x c hc)), fun j y v' e1 e2 e3 => ?_⟩, fun y c' e => ?_, I.free, I.freeC, fun p hp => ?_, tracked ⟨oc, hoc, I.freeC x c hc⟩ hs, by simpa using I.len⟩ ⟨c, hs, .inr hc⟩
    · exact (hs.2 b (Nat.ne_of_lt (Nat.lt_of_lt_of_le (Heap.lt_size e) (I.ok.cab x c hfn hc)))).trans (I.base.keep b o e n hb hx)
    · obtain ⟨sl, e1⟩ := I.base.slot b o e n hb hx
      exact ⟨sl, (hs.2 b (Nat.ne_of_lt (Nat.lt_of_lt_of_le (Heap.lt_size e) (I.ok.cab x c hfn hc)))).trans e1⟩
    · obtain ⟨o', e1⟩ := I.base.there b o e hx
      exact ⟨o', (hs.2 b (Nat.ne_of_lt (Nat.lt_of_lt_of_le (Heap.lt_size e) (I.ok.cab x c hfn hc)))).trans e1⟩
    · by_cases hj : j = i
      · subst hj
        rw [hi] at e1; cases e1
        rw [List.getElem?_set_self hiσ] at e2
        cases e2
        exact ⟨u, r, .inr ⟨.inl hk, c, hc, hc'⟩⟩
      · rw [List.getElem?_set_ne (Ne.symm hj)] at e2
        obtain ⟨u', r', q⟩ := hl j y v' e1 e2 e3
        refine ⟨u', r', ?_⟩
        rcases q with q | ⟨k, c', e, z'⟩
        · exact .inl q
        · refine .inr ⟨k, c', e, z'.sameBut hs ?_⟩
          rintro rfl
          exact hj (nodup_ix hN e1 (I.ok.inj _ _ _ e hc ▸ hi))
    · by_cases hcc : c' = c
      · subst hcc; exact ⟨_, hc'⟩
      · obtain ⟨w2, z2⟩ := I.cell y c' e
        exact ⟨w2, z2.sameBut hs hcc⟩
    · obtain ⟨e, n, ne, nf, d⟩ := I.pin p hp
      refine ⟨(hs.2 p.1 ?_).trans e, n, ne, nf, d⟩
      intro q
      rw [q, hoc] at e
      have q' : oc = p.2 := Option.some.inj e
      exact d w' (by rw [← q']; exact hocd)
theorem store_ok {M : Model} {A : Around} {E : Value → Shared → Prop} {i : Nat} {x : Str} {v : V} {u : Value} {Q : Unit → Shared → Prop} (I : Inv X pins σ H s) (hN : X.N.Nodup) (hi : X.N[i]? = some x) (hx : Loc X.env.scope x) (r : RelV v u)
    (h : ∀ s', Inv X pins (σ.set i (some v)) H s' → Q () s') (hf : X.fn x = true ∨ X.env.scope.names.lookup x = some .local := by first | exact .inl rfl | exact .inr rfl | assumption) : wpAny M A (storeName X.env x u) Q E s :=
  store_ok2 I hN hi hx r (fun s' I' _ => h s' I') hf
theorem Inv.call' {s' : Shared} {ch : List Addr} (I : Inv X pins σ H s) (ho : s'.os = s.os) (u : Un (frs X.stack) ch H H' s.heap s'.heap) (hok : HOk X.prog X.w H' s'.heap) (hg : AllBare s'.gens)
    (hch : ∀ b ∈ ch, (b ∈ X.ex ∨ X.s₀.heap.objs.size ≤ b) ∧ b ≠ X.env.locals ∧ (∀ x c, X.env.cells.lookup x = some c → c ≠ b) ∧ ∀ p ∈ X.pn ++ pins, p.1 ≠ b) : Inv X pins σ H' s' := by
  obtain ⟨h', g', d', t', o'⟩ := s'
  have e : o' = s.os := ho
  subst e
  exact I.call (g' := g') (t' := t') (d' := d') u hok hg hch
end
noncomputable abbrev XK := Value → Option Addr → Hp → Prop
noncomputable abbrev St := List (Option V)
noncomputable abbrev VK := V → Hp → Prop
noncomputable abbrev TE := St → Hp → VK → Prop
noncomputable abbrev TT := St → Hp → (Bool → Hp → Prop) → Prop
noncomputable abbrev TA := St → Hp → (List V → Hp → Prop) → Prop
structure Ends where
  nx : St → Hp → Prop
  rt : VK
  bk : St → Hp → Prop := fun _ _ => False
  ct : St → Hp → Prop := fun _ _ => False
noncomputable abbrev TS := Ends → St → Hp → Prop
noncomputable def EP (X : Cx) (pins : List (Addr × Obj)) (σ : St) (Q : VK) (u : Value) (s' : Shared) : Prop := ∃ v H', Inv X pins σ H' s' ∧ RelV v u ∧ Q v H'
noncomputable def TP (X : Cx) (pins : List (Addr × Obj)) (σ : St) (Q : Bool → Hp → Prop) (b : Bool) (s' : Shared) : Prop := ∃ H', Inv X pins σ H' s' ∧ Q b H'
noncomputable def AP (X : Cx) (pins : List (Addr × Obj)) (σ : St) (Q : List V → Hp → Prop) (us : List Value) (s' : Shared) : Prop := ∃ vs H', Inv X pins σ H' s' ∧ Vals vs us ∧ Q vs H'
noncomputable def SP (X : Cx) (pins : List (Addr × Obj)) (D : Ends) (f : Flow) (s' : Shared) : Prop :=
  match f with
  | .next => ∃ σ' H', Inv X pins σ' H' s' ∧ D.nx σ' H'
  | .brk => ∃ σ' H', Inv X pins σ' H' s' ∧ D.bk σ' H'
  | .cont => ∃ σ' H', Inv X pins σ' H' s' ∧ D.ct σ' H'
  | .ret u => ∃ v σ' H', Inv X pins σ' H' s' ∧ RelV v u ∧ D.rt v H'
noncomputable def PE (X : Cx) (e : Expr) (t : TE) : Prop :=
  ∀ (pins : List (Addr × Obj)) (s : Shared) (σ : St) (H : Hp) (Q : VK), Inv X pins σ H s → t σ H Q → wpAny (model X.prog X.w) X.A (eval e X.env) (EP X pins σ Q) X.xe s
noncomputable def PT (X : Cx) (e : Expr) (t : TT) : Prop :=
  ∀ (pins : List (Addr × Obj)) (s : Shared) (σ : St) (H : Hp) (Q : Bool → Hp → Prop), Inv X pins σ H s → t σ H Q → wpAny (model X.prog X.w) X.A (isTrue e X.env (eval e X.env)) (TP X pins σ Q) X.xe s
noncomputable def PW (X : Cx) (e : Expr) (t : TT) : Prop :=
  ∀ (whole : Sem Value) (pins : List (Addr × Obj)) (s : Shared) (σ : St) (H : Hp) (Q : Bool → Hp → Prop), Inv X pins σ H s → t σ H Q → wpAny (model X.prog X.w) X.A (isTrue e X.env whole) (TP X pins σ Q) X.xe s
theorem PW.pt {X : Cx} {e : Expr} {t : TT} (h : PW X e t) : PT X e t := h _
noncomputable def PA (X : Cx) (es : List Expr) (t : TA) : Prop :=
  ∀ (pos : Pos) (pins : List (Addr × Obj)) (s : Shared) (σ : St) (H : Hp) (Q : List V → Hp → Prop), Inv X pins σ H s → t σ H Q → wpAny (model X.prog X.w) X.A (spliced (backTo pos (starEach es X.env))) (AP X pins σ Q) X.xe s
noncomputable def PS (X : Cx) (st : Stmt) (t : TS) : Prop :=
  ∀ (pins : List (Addr × Obj)) (s : Shared) (σ : St) (H : Hp) (D : Ends), Inv X pins σ H s → t D σ H → wpAny (model X.prog X.w) X.A (exec st X.env) (SP X pins D) X.xe s
noncomputable def PSs (X : Cx) (st : List Stmt) (t : TS) : Prop :=
  ∀ (pins : List (Addr × Obj)) (s : Shared) (σ : St) (H : Hp) (D : Ends), Inv X pins σ H s → t D σ H → wpAny (model X.prog X.w) X.A (execs st X.env) (SP X pins D) X.xe s
theorem thn {α : Type} {t : Sem α} {Q Q' : α → Shared → Prop} {M : Model} {A : Around} {E : Value → Shared → Prop} {s : Shared} (h : wpAny M A t Q E s) (hQ : ∀ a s, Q a s → Q' a s) : wpAny M A t Q' E s := wpAny_mono h hQ fun _ _ x => x
theorem thnE {X : Cx} {pins : List (Addr × Obj)} {σ : St} {Qv : VK} {t : Sem Value} {Q' : Value → Shared → Prop} {M : Model} {A : Around} {E : Value → Shared → Prop} {s : Shared} (h : wpAny M A t (EP X pins σ Qv) E s) (hQ : ∀ u s' v H', Inv X pins σ H' s' → RelV v u → Qv v H' → Q' u s') : wpAny M A t Q' E s :=
  wpAny_mono h (fun u s' z => by obtain ⟨v, H', i, r, q⟩ := z; exact hQ u s' v H' i r q) fun _ _ x => x
theorem thnA {X : Cx} {pins : List (Addr × Obj)} {σ : St} {Qv : List V → Hp → Prop} {t : Sem (List Value)} {Q' : List Value → Shared → Prop} {M : Model} {A : Around} {E : Value → Shared → Prop} {s : Shared} (h : wpAny M A t (AP X pins σ Qv) E s) (hQ : ∀ u s' v H', Inv X pins σ H' s' → Vals v u → Qv v H' → Q' u s') : wpAny M A t Q' E s :=
  wpAny_mono h (fun u s' z => by obtain ⟨v, H', i, r, q⟩ := z; exact hQ u s' v H' i r q) fun _ _ x => x
theorem thnT {X : Cx} {pins : List (Addr × Obj)} {σ : St} {Qv : Bool → Hp → Prop} {t : Sem Bool} {Q' : Bool → Shared → Prop} {M : Model} {A : Around} {E : Value → Shared → Prop} {s : Shared} (h : wpAny M A t (TP X pins σ Qv) E s) (hQ : ∀ u s' H', Inv X pins σ H' s' → Qv u H' → Q' u s') : wpAny M A t Q' E s :=
  wpAny_mono h (fun u s' z => by obtain ⟨H', i, q⟩ := z; exact hQ u s' H' i q) fun _ _ x => x
end L2
namespace L2
open PySem PySem.Spec PyProof.Rows
section
variable {X : Cx}
inductive tVar_r (i : Nat) (σ : St) (H : Hp) (Q : VK) : Prop
  | mk : ∀ v, (σ[i]? = some (some v)) → (Q v H) → tVar_r i σ H Q
noncomputable def tVar (i : Nat) : TE := fun σ H Q => tVar_r i σ H Q
noncomputable def tC (v : V) : TE := fun _ H Q => Q v H
theorem pe_var {i : Nat} {x : Str} {pos : Pos} (hN : X.N[i]? = some x) (hv : Vis X.env.scope x) (hd : (x == ("__debug__" : Str)) = false := by decide) (hcd : (x == ("__classdict__" : Str)) = false := by decide) : PE X (.Name x pos) (tVar i) := by
  intro pins s σ H Q I h
  obtain ⟨v, e, h⟩ := h
  obtain ⟨m, hn, hl⟩ := I.loc
  obtain ⟨u, r, l⟩ := hl i x v hN e hv
  have fin : EP X pins σ Q u s := ⟨v, H, I, r, h⟩
  rcases l with ⟨hk, hm⟩ | ⟨hk, c, hc, hcell⟩
  · exact wpAny_Name (wpAny_loadName_local I.ok.kind hk hn hm fin) hd
  · rcases hk with hk | hk
    · exact wpAny_Name (wpAny_loadName_cell I.ok.kind hk hc hcell fin) hd
    · exact wpAny_Name (wpAny_loadName_free I.ok.kind hk hc hcell fin hcd) hd
theorem pe_int {i j pos} : PE X (.Constant (.int i) j pos) (tC (.int i)) := fun _ _ _ H _ I h => wpAny_Constant_int ⟨.int i, H, I.tok _, ⟨_, rfl⟩, h⟩
theorem pe_bl {b j pos} : PE X (.Constant (.bool b) j pos) (tC (.bl b)) := fun _ _ _ H _ I h => Constant_bool ⟨.bl b, H, I, rfl, h⟩
theorem pe_non {j pos} : PE X (.Constant .none j pos) (tC .non) := fun _ _ _ H _ I h => Constant_none ⟨.non, H, I, rfl, h⟩
noncomputable def Gl (X : Cx) (x : Str) : Prop := X.env.kindOf x = some .globalImplicit
theorem ld_glob {E : Value → Shared → Prop} {pins : List (Addr × Obj)} {s : Shared} {σ : St} {H : Hp} {x : Str} {u : Value} {pos : Pos} {Q : Value → Shared → Prop} (I : Inv X pins σ H s) (hg : Gl X x) (hm : X.mg x = some u) (h : Q u s)
    (hd : (x == ("__debug__" : Str)) = false := by decide) : wpAny (model X.prog X.w) X.A (eval (.Name x pos) X.env) Q E s :=
  Calls.Name_function_global I.ok.kind hg (Calls.loadGlobal_global (by rw [I.ok.glob]; exact I.mod.glob.keeps I.bk) hm h) hd
theorem ld_blt {E : Value → Shared → Prop} {pins : List (Addr × Obj)} {s : Shared} {σ : St} {H : Hp} {x : Str} {u : Value} {pos : Pos} {Q : Value → Shared → Prop} (I : Inv X pins σ H s) (hg : Gl X x) (hm : X.mg x = none) (hv : bootBuiltins x = some u) (h : Q u s)
    (hn : x ≠ "__name__" := by decide) (hd : (x == ("__debug__" : Str)) = false := by decide) : wpAny (model X.prog X.w) X.A (eval (.Name x pos) X.env) Q E s := by
  obtain ⟨mb, h1, h2⟩ := I.mod.blt
  exact Calls.Name_function_global I.ok.kind hg (Calls.loadGlobal_builtin (by rw [I.ok.glob]; exact I.mod.glob.keeps I.bk) hm (by rw [I.ok.blt]; exact h1.keeps I.bk) ((h2 x hn).trans hv) h) hd
variable {a b : Expr} {ta tb : TE} {pos : Pos}
noncomputable def PC (X : Cx) (op : CmpOp) (a b : Expr) (t : TE) : Prop :=
  ∀ (pins : List (Addr × Obj)) (s : Shared) (σ : St) (H : Hp) (Q : VK), Inv X pins σ H s → t σ H Q →
    wpAny (model X.prog X.w) X.A (eval a X.env) (fun v s₁ => wpAny (model X.prog X.w) X.A (eval b X.env) (fun u s₂ => wpAny (model X.prog X.w) X.A (compareOp op v u) (EP X pins σ Q) X.xe s₂) X.xe s₁) X.xe s
inductive tB_r (Q : Bool → Hp → Prop) (x : V) (H1 : Hp) : Prop
  | mk : ∀ c, (x = .bl c) → (Q c H1) → tB_r Q x H1
noncomputable def tB (t : TE) : TT := fun σ H Q => t σ H fun x H1 => tB_r Q x H1
theorem pt_cmp {op : CmpOp} {t : TE} (h : PC X op a b t) (h1 : behindInMarks op b = false := by first | exact nobehind _ (by decide) (by decide) | rfl) : PT X (.Compare a [op] [b] pos) (tB t) := by
  intro pins s σ H Q I hw
  refine wpAny_isTrue_Compare1 (thn (h pins s σ H _ I hw) fun v s1 h1 => thn h1 fun u s2 h2 => thn h2 fun c s3 ⟨x, H1, I1, r1, q1⟩ => ?_) h1
  obtain ⟨d, rfl, q⟩ := q1
  cases r1
  exact wpAny_truthy_bool ⟨H1, I1, q⟩
theorem pt_val {e : Expr} {t : TE} (h : PE X e t) (he : ∀ whole, isTrue e X.env whole = (do let v ← whole; standAt e.pos; holding [v] (truthy v)) := by intro _; rfl) : PT X e (tB t) := by
  intro pins s σ H Q I hw
  refine isTrue_plain (thnE (h pins s σ H _ I hw) fun v s1 x H1 I1 r1 q1 => ?_) (he _)
  obtain ⟨d, rfl, q⟩ := q1
  cases r1
  exact wpAny_truthy_bool ⟨H1, I1, q⟩
variable {tA tB' : TT} {rest : List Expr}
noncomputable def tAnd (t u : TT) : TT := fun σ H Q => t σ H fun c H1 => if c = true then u σ H1 Q else Q false H1
noncomputable def tOr (t u : TT) : TT := fun σ H Q => t σ H fun c H1 => if c = true then Q true H1 else u σ H1 Q
noncomputable def tNot (t : TT) : TT := fun σ H Q => t σ H fun c H1 => Q (!c) H1
theorem pw_and1 (ha : PT X a tA) : PW X (.BoolOp .And [a] pos) tA := by
  intro wh pins s σ H Q I h
  refine isTrue_and (thn (ha pins s σ H Q I h) fun c s1 e => ?_)
  cases c with
  | true => exact isTrue_and_nil e
  | false => exact e
theorem pw_or1 (ha : PT X a tA) : PW X (.BoolOp .Or [a] pos) tA := by
  intro wh pins s σ H Q I h
  refine isTrue_or (thn (ha pins s σ H Q I h) fun c s1 e => ?_)
  cases c with
  | false => exact isTrue_or_nil e
  | true => exact e
theorem pw_and (ha : PT X a tA) (hb : PW X (.BoolOp .And (b :: rest) pos) tB') : PW X (.BoolOp .And (a :: b :: rest) pos) (tAnd tA tB') := by
  intro wh pins s σ H Q I h
  refine isTrue_and (thnT (ha pins s σ H _ I h) fun c s1 H1 I1 q1 => ?_)
  cases c with
  | true => exact hb wh pins s1 σ H1 Q I1 q1
  | false => exact ⟨H1, I1, q1⟩
theorem pw_or (ha : PT X a tA) (hb : PW X (.BoolOp .Or (b :: rest) pos) tB') : PW X (.BoolOp .Or (a :: b :: rest) pos) (tOr tA tB') := by
  intro wh pins s σ H Q I h
  refine isTrue_or (thnT (ha pins s σ H _ I h) fun c s1 H1 I1 q1 => ?_)
  cases c with
  | true => exact ⟨H1, I1, q1⟩
  | false => exact hb wh pins s1 σ H1 Q I1 q1
theorem pt_not (ha : PT X a tA) : PT X (.UnaryOp .Not a pos) (tNot tA) := by
  intro pins s σ H Q I h
  exact isTrue_not (ha pins s σ H (fun c H1 => Q (!c) H1) I h)
inductive tAndV_r (tb : TE) (σ : St) (Q : VK) (x : V) (H1 : Hp) : Prop
  | mk : ∀ c, (x = .bl c) → (if c = true then tb σ H1 Q else Q (.bl false) H1) → tAndV_r tb σ Q x H1
noncomputable def tAndV (ta tb : TE) : TE := fun σ H Q => ta σ H fun x H1 => tAndV_r tb σ Q x H1
inductive tNotV_r (Q : VK) (x : V) (H1 : Hp) : Prop
  | mk : ∀ c, (x = .bl c) → (Q (.bl (!c)) H1) → tNotV_r Q x H1
noncomputable def tNotV (ta : TE) : TE := fun σ H Q => ta σ H fun x H1 => tNotV_r Q x H1
theorem pe_one {op} {t : TE} (h : PE X a t) : PE X (.BoolOp op [a] pos) t := fun pins s σ H Q I hw => BoolOp_one (h pins s σ H Q I hw)
theorem pe_and (ha : PE X a ta) (hb : PE X (.BoolOp .And (b :: rest) pos) tb) : PE X (.BoolOp .And (a :: b :: rest) pos) (tAndV ta tb) := by
  intro pins s σ H Q I h
  refine BoolOp_and (thnE (ha pins s σ H _ I h) fun v s1 x H1 I1 r1 q1 => ?_)
  obtain ⟨c, rfl, q1⟩ := q1
  cases r1
  refine wpAny_truthy_bool ?_
  cases c with
  | true => exact hb pins s1 σ H1 Q I1 q1
  | false => exact ⟨.bl false, H1, I1, rfl, q1⟩
theorem pe_not (ha : PE X a ta) : PE X (.UnaryOp .Not a pos) (tNotV ta) := by
  intro pins s σ H Q I h
  refine UnaryOp_ (thnE (ha pins s σ H _ I h) fun v s1 x H1 I1 r1 q1 => ?_)
  obtain ⟨c, rfl, q1⟩ := q1
  cases r1
  exact not_of (wpAny_truthy_bool ⟨.bl (!c), H1, I1, rfl, q1⟩)
noncomputable def tIf (t : TT) (ta tb : TE) : TE := fun σ H Q => t σ H fun c H1 => if c = true then ta σ H1 Q else tb σ H1 Q
theorem pe_ifExp {c : Expr} (hc : PT X c tA) (ha : PE X a ta) (hb : PE X b tb) : PE X (.IfExp c a b pos) (tIf tA ta tb) := by
  intro pins s σ H Q I h
  refine wpAny_IfExp (thnT (hc pins s σ H _ I h) fun d s1 H1 I1 q1 => ?_)
  cases d with
  | true => exact ha pins s1 σ H1 Q I1 q1
  | false => exact hb pins s1 σ H1 Q I1 q1
end
end L2
namespace L2
open PySem PySem.Spec PyProof.Rows
noncomputable def SqL (K : PySem.W.Frag) (H : Hp) (a : Addr) (xs : List V) : Prop :=
  Rd H a (.lst xs) ∨
    ∃ (o : Obj) (its : Array Value) (n : Nat), K.lookup a = some o ∧ o.cls = .type "list" ∧ o.dict = none ∧ o.data = .seq its n ∧ its.size ≤ sizeLine ∧ Vals xs its.toList
noncomputable def SqT (K : PySem.W.Frag) (H : Hp) (a : Addr) (xs : List V) : Prop :=
  Rd H a (.tup xs) ∨
    ∃ (o : Obj) (its : Array Value) (n : Nat), K.lookup a = some o ∧ o.cls = .type "tuple" ∧ o.data = .seq its n ∧ its.size ≤ sizeLine ∧ Vals xs its.toList
noncomputable def absV : Value → Option V
  | .none => some .non
  | .bool b => some (.bl b)
  | .int i _ => some (.int i)
  | .str x _ => some (.str x)
  | .bytes b _ => some (.byt b)
  | .float b _ => some (.flt b)
  | .ref a => some (.ref a)
  | .type n => some (.ty n)
  | _ => none
theorem RelV.abs {x : V} {u : Value} (r : RelV x u) : absV u = some x := by
  cases x with
  | non => cases r; rfl
  | bl _ => cases r; rfl
  | int _ => obtain ⟨t, rfl⟩ := r; rfl
  | str _ => obtain ⟨t, rfl⟩ := r; rfl
  | byt _ => obtain ⟨t, rfl⟩ := r; rfl
  | flt _ => obtain ⟨t, rfl⟩ := r; rfl
  | ref _ => cases r; rfl
  | ty _ => cases r; rfl
theorem RelV.inj {x y : V} {u : Value} (r : RelV x u) (q : RelV y u) : x = y := Option.some.inj (r.abs.symm.trans q.abs)
theorem Vals.inj {xs ys : List V} {us : List Value} (h : Vals xs us) (h' : Vals ys us) : xs = ys := by
  induction h generalizing ys with
  | nil => cases h'; rfl
  | cons r t ih =>
    cases h' with
    | cons r' t' => rw [r.inj r', ih t']
section
variable {X : Cx} {pins : List (Addr × Obj)} {σ : St} {H : Hp} {s : Shared} {a : Addr} {xs ys : List V}
theorem SqL.of {K : PySem.W.Frag} (h : H a = some (.lst xs)) : SqL K H a xs := .inl (.inl h)
theorem SqT.of {K : PySem.W.Frag} (h : H a = some (.tup xs)) : SqT K H a xs := .inl (.inl h)
theorem Inv.list (I : Inv X pins σ H s) (h : SqL X.K H a xs) : ∃ its : List Value, Vals xs its ∧ PlainL s.heap a its.toArray ∧ xs.length ≤ sizeLine := by
  rcases h with h | ⟨o, its, n, hk, hc, hd, hs, hz, r⟩
  · obtain ⟨z, its, n, r, e⟩ := h.ok I.hok
    exact ⟨its, r, ⟨_, n, e, rfl, rfl, rfl⟩, z⟩
  · refine ⟨its.toList, r, ⟨o, n, I.kIn a o hk, hc, hd, by simpa using hs⟩, ?_⟩
    have e := r.length
    simp only [Array.length_toList] at e
    (first | lia | omega)
theorem Inv.tuple (I : Inv X pins σ H s) (h : SqT X.K H a xs) : ∃ its : List Value, Vals xs its ∧ IsTup s.heap a its.toArray ∧ xs.length ≤ sizeLine := by
  rcases h with h | ⟨o, its, n, hk, hc, hs, hz, r⟩
  · obtain ⟨⟨z, _⟩, its, r, p⟩ := h.ok I.hok
    exact ⟨its, r, p, z⟩
  · refine ⟨its.toList, r, ⟨o, I.kIn a o hk, hc, n, by simpa using hs⟩, ?_⟩
    have e := r.length
    simp only [Array.length_toList] at e
    (first | lia | omega)
theorem Inv.list_inj (I : Inv X pins σ H s) (h : SqL X.K H a xs) (h' : SqL X.K H a ys) : xs = ys := by
  obtain ⟨its, r, ⟨o, n, e, _, _, d⟩, -⟩ := I.list h
  obtain ⟨its', r', ⟨o', n', e', _, _, d'⟩, -⟩ := I.list h'
  rw [e] at e'; cases e'
  rw [d] at d'
  injection d' with d1 _
  have : its = its' := by simpa using congrArg Array.toList d1
  subst this
  exact r.inj r'
theorem Inv.tuple_inj (I : Inv X pins σ H s) (h : SqT X.K H a xs) (h' : SqT X.K H a ys) : xs = ys := by
  obtain ⟨its, r, ⟨o, e, _, n, d⟩, -⟩ := I.tuple h
  obtain ⟨its', r', ⟨o', e', _, n', d'⟩, -⟩ := I.tuple h'
  rw [e] at e'; cases e'
  rw [d] at d'
  injection d' with d1 _
  have : its = its' := by simpa using congrArg Array.toList d1
  subst this
  exact r.inj r'
end
noncomputable abbrev Cx.wish (X : Cx) (E : Value → Shared → Prop) : Cx := { X with xe := E }
noncomputable abbrev Cx.nox (X : Cx) : Cx := X.wish fun _ _ => False
theorem Cx.Ok.wish {X : Cx} (ok : X.Ok) (E : Value → Shared → Prop) : (X.wish E).Ok :=
  ⟨ok.mod, ok.kind, ok.glob, ok.blt, ok.above, ok.inj, ok.has, ok.cab, ok.hd, ok.frames, ok.stk, ok.exf, ok.bs, ok.bsz, ok.noex, ok.exfs, ok.funs, ok.frf⟩
theorem Cx.Ok.unwish {X : Cx} {E : Value → Shared → Prop} (ok : (X.wish E).Ok) : X.Ok :=
  ⟨ok.mod, ok.kind, ok.glob, ok.blt, ok.above, ok.inj, ok.has, ok.cab, ok.hd, ok.frames, ok.stk, ok.exf, ok.bs, ok.bsz, ok.noex, ok.exfs, ok.funs, ok.frf⟩
section
variable {X : Cx} {pins : List (Addr × Obj)} {σ : St} {H : Hp} {s : Shared} {E : Value → Shared → Prop}
theorem Inv.wish (I : Inv X pins σ H s) (E : Value → Shared → Prop) : Inv (X.wish E) pins σ H s := ⟨I.ok.wish E, I.os, I.bare, I.base, I.loc, I.cell, I.free, I.freeC, I.pin, I.hok, I.len⟩
theorem Inv.unwish (I : Inv (X.wish E) pins σ H s) : Inv X pins σ H s := ⟨I.ok.unwish, I.os, I.bare, I.base, I.loc, I.cell, I.free, I.freeC, I.pin, I.hok, I.len⟩
theorem SP.unwish {D : Ends} {f : Flow} {s' : Shared} (h : SP (X.wish E) pins D f s') : SP X pins D f s' := by
  cases f with
  | next => obtain ⟨σ', H', I, q⟩ := h; exact ⟨σ', H', I.unwish, q⟩
  | brk => obtain ⟨σ', H', I, q⟩ := h; exact ⟨σ', H', I.unwish, q⟩
  | cont => obtain ⟨σ', H', I, q⟩ := h; exact ⟨σ', H', I.unwish, q⟩
  | ret u => obtain ⟨v, σ', H', I, r, q⟩ := h; exact ⟨v, σ', H', I.unwish, r, q⟩
theorem PSs.nox {st : List Stmt} {t : TS} (h : PSs X.nox st t) : PSs X st t := fun pins s σ H D I hw =>
  wpAny_mono (h pins s σ H D (I.wish _) hw) (fun _ _ q => q.unwish) fun _ _ z => False.elim z
end
section
variable {X : Cx} {st : Stmt} {rest : List Stmt} {t u : TS} {e : Expr} {te : TE} {pos : Pos}
noncomputable def tNext : TS := fun D σ H => D.nx σ H
noncomputable def tSeq (t u : TS) : TS := fun D σ H => t { D with nx := u D } σ H
theorem pss_nil : PSs X [] tNext := fun _ _ σ H _ I h => wpAny_execs_nil ⟨σ, H, I, h⟩
theorem pss_cons (h1 : PS X st t) (h2 : PSs X rest u) : PSs X (st :: rest) (tSeq t u) := by
  intro pins s σ H D I h
  refine wpAny_execs_cons (thn (h1 pins s σ H { D with nx := u D } I h) fun f s1 q => ?_)
  cases f with
  | next =>
    obtain ⟨σ', H', I', q⟩ := q
    exact h2 pins s1 σ' H' D I' q
  | ret v => exact q
  | brk => exact q
  | cont => exact q
theorem pss_one (h1 : PS X st t) : PSs X [st] t := by
  intro pins s σ H D I h
  refine wpAny_execs_cons (thn (h1 pins s σ H D I h) fun f s1 q => ?_)
  cases f with
  | next => exact wpAny_execs_nil q
  | ret v => exact q
  | brk => exact q
  | cont => exact q
theorem Inv.quiet {pins : List (Addr × Obj)} {σ : St} {H : Hp} {s : Shared} (I : Inv X pins σ H s) : interactive X.env = false := by simp [interactive, I.ok.kind]
noncomputable def tDrop (te : TE) : TS := fun D σ H => te σ H fun _ H1 => D.nx σ H1
theorem ps_expr (he : PE X e te) (hs : swapsWith e none pos.line X.env = pure false := by rfl) : PS X (.Expr e pos) (tDrop te) := by
  intro pins s σ H D I h
  exact wpAny_Expr_any (thnE (he pins s σ H _ I h) fun v s1 x H1 I1 r1 q1 => ⟨σ, H1, I1, q1⟩) I.quiet hs
noncomputable def tRet (te : TE) : TS := fun D σ H => te σ H D.rt
theorem ps_ret (he : PE X e te) : PS X (.Return (some e) pos) (tRet te) := by
  intro pins s σ H D I h
  exact wpAny_Return_some (thnE (he pins s σ H _ I h) fun v s1 x H1 I1 r1 q1 => ⟨x, σ, H1, I1, r1, q1⟩)
noncomputable def tIfS (c : TT) (t u : TS) : TS := fun D σ H => c σ H fun b H1 => if b = true then t D σ H1 else u D σ H1
theorem ps_if {c : Expr} {a b : List Stmt} {tc : TT} (hc : PT X c tc) (ha : PSs X a t) (hb : PSs X b u) : PS X (.If c a b pos) (tIfS tc t u) := by
  intro pins s σ H D I h
  refine wpAny_If (thnT (hc pins s σ H _ I h) fun d s1 H1 I1 q1 => ?_)
  cases d with
  | true => exact ha pins s1 σ H1 D I1 q1
  | false => exact hb pins s1 σ H1 D I1 q1
end
noncomputable abbrev TG := V → St → Hp → (St → Hp → Prop) → Prop
noncomputable abbrev TGs := List V → St → Hp → (St → Hp → Prop) → Prop
noncomputable def PG (X : Cx) (target : Expr) (t : TG) : Prop :=
  ∀ (pins : List (Addr × Obj)) (s : Shared) (σ : St) (H : Hp) (v : V) (u : Value) (Q : St → Hp → Prop), Inv X pins σ H s → RelV v u → t v σ H Q →
    wpAny (model X.prog X.w) X.A (assign target X.env u) (fun _ s' => ∃ σ' H', Inv X pins σ' H' s' ∧ Q σ' H') X.xe s
noncomputable def PGs (X : Cx) (ts : List Expr) (t : TGs) : Prop :=
  ∀ (pins : List (Addr × Obj)) (s : Shared) (σ : St) (H : Hp) (vs : List V) (us : List Value) (Q : St → Hp → Prop), Inv X pins σ H s → Vals vs us → t vs σ H Q →
    wpAny (model X.prog X.w) X.A (assignInOrder ((assignEach ts X.env).map (·.2)) us) (fun _ s' => ∃ σ' H', Inv X pins σ' H' s' ∧ Q σ' H') X.xe s
noncomputable abbrev TSet := V → V → V → Hp → (Hp → Prop) → Prop
noncomputable def PSet (X : Cx) (t : TSet) : Prop :=
  ∀ (pins : List (Addr × Obj)) (s : Shared) (σ : St) (H : Hp) (o i v : V) (ov iv u : Value) (Q : Hp → Prop), Inv X pins σ H s → RelV o ov → RelV i iv → RelV v u → t o i v H Q →
    wpAny (model X.prog X.w) X.A (setItem ov iv u) (fun _ s' => ∃ H', Inv X pins σ H' s' ∧ Q H') X.xe s
section
variable {X : Cx} {pos : Pos}
noncomputable def gName (i : Nat) : TG := fun v σ H Q => Q (σ.set i (some v)) H
theorem pg_name {i : Nat} {x : Str} (hN : X.N.Nodup) (hi : X.N[i]? = some x) (hx : Loc X.env.scope x) (hf : X.fn x = true ∨ X.env.scope.names.lookup x = some .local := by first | exact .inl rfl | exact .inr rfl | assumption) : PG X (.Name x pos) (gName i) := by
  intro pins s σ H v u Q I r h
  exact wpAny_assign_Name (store_ok I hN hi hx r (fun s' I' => ⟨_, H, I', h⟩) hf)
inductive gNil_r (vs : List V) (σ : St) (H : Hp) (Q : St → Hp → Prop) : Prop
  | mk : (vs = []) → (Q σ H) → gNil_r vs σ H Q
noncomputable def gNil : TGs := fun vs σ H Q => gNil_r vs σ H Q
inductive gCons_r (t : TG) (u : TGs) (vs : List V) (σ : St) (H : Hp) (Q : St → Hp → Prop) : Prop
  | mk : ∀ v r, (vs = v :: r) → (t v σ H fun σ' H' => u r σ' H' Q) → gCons_r t u vs σ H Q
noncomputable def gCons (t : TG) (u : TGs) : TGs := fun vs σ H Q => gCons_r t u vs σ H Q
theorem pgs_nil : PGs X [] gNil := by
  intro pins s σ H vs us Q I r h
  obtain ⟨e, h⟩ := h
  subst e
  cases r
  exact assignInOrder_nil ⟨σ, H, I, h⟩
theorem pgs_cons {e : Expr} {es : List Expr} {t : TG} {u : TGs} (h1 : PG X e t) (h2 : PGs X es u)
    (hs : (assignEach (e :: es) X.env).map (·.2) = assign e X.env :: (assignEach es X.env).map (·.2) := by rfl) : PGs X (e :: es) (gCons t u) := by
  intro pins s σ H vs us Q I r h
  obtain ⟨v, vr, e1, h⟩ := h
  subst e1
  cases r with
  | cons r rr =>
    rw [hs]
    refine assignInOrder_cons (thn (h1 pins s σ H _ _ _ I r h) ?_)
    rintro _ s1 ⟨σ1, H1, I1, q1⟩
    exact h2 pins s1 σ1 H1 _ _ Q I1 rr q1
inductive gTup_r (K : PySem.W.Frag) (n : Nat) (t : TGs) (v : V) (σ : St) (H : Hp) (Q : St → Hp → Prop) : Prop
  | mk : ∀ a xs, (v = .ref a) → (SqT K H a xs) → (xs.length = n) → (t xs σ H Q) → gTup_r K n t v σ H Q
noncomputable def gTup (K : PySem.W.Frag) (n : Nat) (t : TGs) : TG := fun v σ H Q => gTup_r K n t v σ H Q
theorem pg_tup {es : List Expr} {k : Nat} {t : TGs} {n : Nat} (hc : X.calm = true) (h : PGs X es t)
    (hn : (assignEach es X.env).length = n := by rfl) (hst : (assignEach es X.env).findIdx? (·.1) = none := by rfl) : PG X (.Tuple es k pos) (gTup X.K n t) := by
  intro pins s σ H v u Q I r hw
  obtain ⟨a, xs, e1, hq, hl, hw⟩ := hw
  subst e1
  cases r
  obtain ⟨its, rv, ht, hz⟩ := I.tuple hq
  refine assign_Tuple_tuple (I.ok.hd hc) ht (by simp [hn, ← hl, rv.length]) hst fun h' hx => ?_
  have I1 : Inv X pins σ H { s with heap := h' } := I.kept (t' := s.toks) fun b o e => hx b o (Nat.ne_of_lt (Heap.lt_size e)) e
  exact h pins _ σ H xs _ Q I1 (by simpa using rv) hw
noncomputable def gSub (to ti : TE) (t : TSet) : TG := fun v σ H Q => to σ H fun o H1 => ti σ H1 fun i H2 => t o i v H2 fun H3 => Q σ H3
theorem pg_sub {o i : Expr} {to ti : TE} {t : TSet} (ho : PE X o to) (hi : PE X i ti) (hs : PSet X t)
    (ha : ∀ v, assign (.Subscript o i pos) X.env v = (do
      let ov ← holding [v] (eval o X.env)
      let iv ← holding [v, ov] (eval i X.env)
      standAt pos
      holding [v, ov, iv] (setItem ov iv v)
      release [v, ov, iv] []) := by intro _; rfl) : PG X (.Subscript o i pos) (gSub to ti t) := by
  intro pins s σ H v u Q I r h
  rw [ha]
  refine wpAny_bind (wpAny_holding (thnE (ho pins s σ H _ I h) fun ov s1 x H1 I1 r1 q1 => ?_))
  refine wpAny_bind (wpAny_holding (thnE (hi pins s1 σ H1 _ I1 q1) fun iv s2 y H2 I2 r2 q2 => ?_))
  refine wpAny_bind (wpAny_standAt (wpAny_bind (wpAny_holding (thn (hs pins s2 σ H2 x y v ov iv u _ I2 r1 r2 r q2) ?_))))
  rintro _ s3 ⟨H3, I3, q3⟩
  exact wpAny_release ⟨σ, H3, I3, q3⟩
noncomputable def tAsg (te : TE) (g : TG) : TS := fun D σ H => te σ H fun x H1 => g x σ H1 D.nx
theorem ps_asg {tg e : Expr} {te : TE} {g : TG} (he : PE X e te) (hg : PG X tg g) (hs : swapsWithSole [tg] e pos.line X.env = pure false := by rfl) (hw : swappedStores [tg] e X.env = pure none := by rfl)
    (h1 : (assignEach [tg] X.env).map (·.2) = [assign tg X.env] := by rfl) : PS X (.Assign [tg] e pos) (tAsg te g) := by
  intro pins s σ H D I h
  refine wpAny_Assign_stores (thnE (he pins s σ H _ I h) fun v s1 x H1 I1 r1 q1 => ?_) hs hw
  rw [h1]
  exact thn (hg pins s1 σ H1 x v _ I1 r1 q1) fun _ s2 q => q
theorem ps_set {i : Nat} {x : Str} {e : Expr} {te : TE} {pos' : Pos} (hN : X.N.Nodup) (hi : X.N[i]? = some x) (hx : Loc X.env.scope x) (he : PE X e te) (hs : swapsWith e (some (.Name x pos')) pos.line X.env = pure false := by rfl) (hf : X.fn x = true ∨ X.env.scope.names.lookup x = some .local := by first | exact .inl rfl | exact .inr rfl | assumption) :
    PS X (.Assign [.Name x pos'] e pos) (tAsg te (gName i)) := by
  intro pins s σ H D I h
  refine wpAny_Assign_Name (thnE (he pins s σ H _ I h) fun v s1 y H1 I1 r1 q1 => ?_) hs
  exact store_ok I1 hN hi hx r1 (fun s2 I2 => ⟨_, H1, I2, q1⟩) hf
end
section
variable {X : Cx} {pos : Pos}
noncomputable def tWhile (c : TT) (tb : TS) : TS := fun D σ H => ∃ W : Nat → St → Hp → Prop, (∃ m, W m σ H) ∧ ∀ m σ H, W m σ H →
  c σ H fun b H1 => if b = true then ∃ N : St → Hp → Prop, (∀ σ' H', N σ' H' → ∃ m', m' < m ∧ W m' σ' H') ∧ tb { D with nx := N, ct := N, bk := D.nx } σ H1 else D.nx σ H1
theorem ps_while {c : Expr} {body : List Stmt} {tc : TT} {tb : TS} (hp : PassesOwn (model X.prog X.w) X.A X.env X.xe) (hc : PT X c tc) (hb : PSs X body tb) : PS X (.While c body [] pos) (tWhile tc tb) := by
  intro pins s σ H D I h
  obtain ⟨W, ⟨m0, w0⟩, turn⟩ := h
  refine wpAny_While (codeAny_whileLoop (fun n s' => ∃ σ' H', Inv X pins σ' H' s' ∧ W n σ' H') ?_ m0 ⟨σ, H, I, w0⟩)
  rintro n s1 ⟨σ1, H1, I1, w1⟩
  refine wpAny_passesOwn hp (thnT (hc pins s1 σ1 H1 _ I1 (turn n σ1 H1 w1)) fun b s2 H2 I2 q2 => ?_)
  cases b with
  | true =>
    obtain ⟨N, hN, q2⟩ := q2
    rw [if_pos rfl]
    refine wpAny_passesOwn hp (thn (hb pins s2 σ1 H2 _ I2 q2) fun f s3 q3 => ?_)
    cases f with
    | next =>
      obtain ⟨σ3, H3, I3, n3⟩ := q3
      obtain ⟨m', hm, w3⟩ := hN σ3 H3 n3
      exact ⟨m', hm, σ3, H3, I3, w3⟩
    | cont =>
      obtain ⟨σ3, H3, I3, n3⟩ := q3
      obtain ⟨m', hm, w3⟩ := hN σ3 H3 n3
      exact ⟨m', hm, σ3, H3, I3, w3⟩
    | brk => exact q3
    | ret v => exact q3
  | false =>
    rw [if_neg Bool.false_ne_true]
    exact wpAny_execs_nil ⟨σ1, H2, I2, q2⟩
end
structure It where
  go : Nat → Hp → Prop
  yld : Nat → Hp → V → Hp → Prop
  stop : Nat → Hp → Prop
noncomputable def FpOk (X : Cx) (pins : List (Addr × Obj)) (H : Hp) (b : Addr) : Prop :=
  H b = none ∧ b ≠ X.env.locals ∧ b ∉ X.fs ∧ (b ∈ X.ex ∨ X.s₀.heap.objs.size ≤ b) ∧ (∀ x c, X.env.cells.lookup x = some c → c ≠ b) ∧ ∀ p ∈ X.pn ++ pins, p.1 ≠ b
theorem Inv.fpOk {X : Cx} {pins : List (Addr × Obj)} {σ : St} {H H' : Hp} {s : Shared} {b : Addr} (I : Inv X pins σ H s) (hb : s.heap.objs.size ≤ b) (hn : H' b = none) : FpOk X pins H' b := by
  refine ⟨hn, Nat.ne_of_gt (Nat.lt_of_lt_of_le I.lt hb), I.nofs hb, .inr (Nat.le_trans I.sz hb), fun x c e z => ?_, fun p hp z => ?_⟩
  · obtain ⟨v, q⟩ := I.cell x c e
    exact absurd (Nat.lt_of_lt_of_le q.lt (by rw [z]; exact hb)) (Nat.lt_irrefl _)
  · exact absurd (Nat.lt_of_lt_of_le (Heap.lt_size (I.pin p hp).1) (by rw [z]; exact hb)) (Nat.lt_irrefl _)
structure Turn (P : Program) (w : World) (K : PySem.W.Frag) (tg : Expr) (J : It) (fp : List Addr) (it : Addr) (tn : Nat → Heap → Prop) : Prop where
  mem : it ∈ fp
  obj : ∀ i h, tn i h → ∀ b ∈ fp, ∃ o, h.get? b = some o ∧ ∀ v, o.data ≠ .cell v
  keep : ∀ i h h', tn i h → (∀ b ∈ fp, ∀ o, h.get? b = some o → h'.get? b = some o) → tn i h'
  item : ∀ (X : Cx), X.prog = P → X.w = w → X.K = K → X.calm = true → ∀ (i : Nat) (pins : List (Addr × Obj)) (s : Shared) (σ : St) (H : Hp) (E : Value → Shared → Prop), Inv X pins σ H s → (∀ b ∈ fp, FpOk X pins H b) → tn i s.heap → J.go i H →
    wpAny (model P w) X.A (pyNext (.ref it)) (fun r s1 => ∃ u, r = some u ∧
      wpAny (model P w) X.A (letOwnedTupleGo tg (.ref it) u) (fun _ s2 => ∃ x H', Inv X pins σ H' s2 ∧ RelV x u ∧ J.yld i H x H' ∧ tn (i + 1) s2.heap ∧ ∀ b ∈ fp, H' b = none) E s1) E s
  done : ∀ (X : Cx), X.prog = P → X.w = w → X.K = K → X.calm = true → ∀ (i : Nat) (pins : List (Addr × Obj)) (s : Shared) (σ : St) (H : Hp) (E : Value → Shared → Prop), Inv X pins σ H s → (∀ b ∈ fp, FpOk X pins H b) → tn i s.heap → J.stop i H →
    wpAny (model P w) X.A (pyNext (.ref it)) (fun r s1 => r = none ∧ Inv X pins σ H s1) E s
  self : ∀ (A : Around) (i : Nat) (s : Shared) (Q : Value → Shared → Prop) (E : Value → Shared → Prop), tn i s.heap → Q (.ref it) s → wpAny (model P w) A (pyIter (.ref it)) Q E s
noncomputable abbrev TI := St → Hp → (It → Hp → Prop) → Prop
noncomputable def PIE (X : Cx) (pins : List (Addr × Obj)) (σ : St) (tg : Expr) (R : It → Hp → Prop) (itv : Value) (s2 : Shared) : Prop :=
  ∃ (it : Addr) (fp : List Addr) (tn : Nat → Heap → Prop) (J : It) (H' : Hp), itv = .ref it ∧ Inv X pins σ H' s2 ∧ Turn X.prog X.w X.K tg J fp it tn ∧ tn 0 s2.heap ∧ (∀ b ∈ fp, FpOk X pins H' b) ∧ R J H'
noncomputable def PI (X : Cx) (tg iter : Expr) (wi : TI) : Prop :=
  ∀ (pins : List (Addr × Obj)) (s : Shared) (σ : St) (H : Hp) (R : It → Hp → Prop), Inv X pins σ H s → wi σ H R →
    wpAny (model X.prog X.w) X.A (eval iter X.env) (fun v s1 => wpAny (model X.prog X.w) X.A (pyIter v) (PIE X pins σ tg R) X.xe s1) X.xe s
theorem go_of {M : Model} {A : Around} {E : Value → Shared → Prop} {s : Shared} {tg : Expr} {it : Addr} {u : Value} {o : Obj} {n : String} {vs : Array Value} {Q : Unit → Shared → Prop} (ho : s.heap.get? it = some o) (hc : o.cls = .type n) (hd : o.data = .fields vs)
    (hn : ["enumerate", "zip", "dict_itemiterator", "dict_reverseitemiterator", "odict_iterator", "itertools.zip_longest", "itertools.pairwise"].contains n = false) (hQ : Q () s) : wpAny M A (letOwnedTupleGo tg (.ref it) u) Q E s := by
  unfold letOwnedTupleGo
  cases tg <;> first
    | exact wpAny_pure hQ
    | (cases u <;> first
        | exact wpAny_pure hQ
        | (refine wpAny_bind (wpAny_load ho ?_)
           rw [hc, hd]
           show wpAny M A (if (["enumerate", "zip", "dict_itemiterator", "dict_reverseitemiterator", "odict_iterator", "itertools.zip_longest", "itertools.pairwise"].contains n && vs[0]? == some (rawInt _)) = true then _ else _) Q E s
           rw [if_neg (by intro h; rw [hn, Bool.false_and] at h; cases h)]
           exact wpAny_pure hQ))
noncomputable def Itl (K : PySem.W.Frag) (a : Addr) : It :=
  ⟨fun i H => ∃ xs x, SqL K H a xs ∧ xs[i]? = some x, fun i H x H' => H' = H ∧ ∀ xs, SqL K H a xs → xs[i]? = some x, fun i H => ∃ xs, SqL K H a xs ∧ xs.length ≤ i⟩
noncomputable def Itt (K : PySem.W.Frag) (a : Addr) : It :=
  ⟨fun i H => ∃ xs x, SqT K H a xs ∧ xs[i]? = some x, fun i H x H' => H' = H ∧ ∀ xs, SqT K H a xs → xs[i]? = some x, fun i H => ∃ xs, SqT K H a xs ∧ xs.length ≤ i⟩
noncomputable def Itr (lo : Int) (n : Nat) : It := ⟨fun i _ => i < n, fun i H x H' => H' = H ∧ x = .int (lo + i), fun i _ => n ≤ i⟩
theorem turn_list {P : Program} {w : World} {K : PySem.W.Frag} {tg : Expr} (a it : Addr) : Turn P w K tg (Itl K a) [it] it (fun i h => h.IsListIter it a i) where
  mem := by simp
  obj := fun i h st b hb => by
    have e : b = it := by simpa using hb
    subst e
    obtain ⟨o, e, c, d⟩ := st
    exact ⟨o, e, fun v z => by rw [d] at z; cases z⟩
  keep := fun i h h' st k => st.at fun o e => k it (by simp) o e
  item := by
    intro X hP hw hK hc i pins s σ H E I hf st hg
    subst hP hw hK
    obtain ⟨xs, x, hq, hx⟩ := hg
    obtain ⟨its, rv, p, hz⟩ := I.list hq
    obtain ⟨u, hu, ru⟩ := rv.get hx
    obtain ⟨f0, f1, f2, f3, f4, f5⟩ := hf it (by simp)
    refine wpAny_pyNext_list_item st p.isList (x := u) (by simpa using hu) fun h' st' sb => ?_
    have I1 : Inv X pins σ H { s with heap := h' } := I.turned (t' := s.toks) (fun b o hb e => (sb.2 b hb).trans e) f0 f1 f3 f4 f5
    obtain ⟨o, e, c, d⟩ := id st'
    exact ⟨u, rfl, go_of (s := { s with heap := h' }) e c d (by decide) ⟨x, H, I1, ru, ⟨rfl, fun ys hy => by rw [I.list_inj hy hq]; exact hx⟩, st', fun b hb => (hf b hb).1⟩⟩
  done := by
    intro X hP hw hK hc i pins s σ H E I hf st hg
    subst hP hw hK
    obtain ⟨xs, hq, hx⟩ := hg
    obtain ⟨its, rv, p, hz⟩ := I.list hq
    obtain ⟨f0, f1, f2, f3, f4, f5⟩ := hf it (by simp)
    have hl := rv.length
    exact wpAny_pyNext_list_end (I.ok.hd hc) st p.isList (by simp; (first | lia | omega)) fun h' eb => ⟨rfl, I.turned (t' := s.toks) (fun b o hb e => eb b o hb e) f0 f1 f3 f4 f5⟩
  self := fun _ _ _ _ _ st h => wpAny_pyIter_listiter st h
theorem turn_tuple {P : Program} {w : World} {K : PySem.W.Frag} {tg : Expr} (a it : Addr) : Turn P w K tg (Itt K a) [it] it (fun i h => h.IsTupleIter it a i) where
  mem := by simp
  obj := fun i h st b hb => by
    have e : b = it := by simpa using hb
    subst e
    obtain ⟨o, e, c, d⟩ := st
    exact ⟨o, e, fun v z => by rw [d] at z; cases z⟩
  keep := fun i h h' st k => st.at fun o e => k it (by simp) o e
  item := by
    intro X hP hw hK hc i pins s σ H E I hf st hg
    subst hP hw hK
    obtain ⟨xs, x, hq, hx⟩ := hg
    obtain ⟨its, rv, p, hz⟩ := I.tuple hq
    obtain ⟨u, hu, ru⟩ := rv.get hx
    obtain ⟨f0, f1, f2, f3, f4, f5⟩ := hf it (by simp)
    refine wpAny_pyNext_tuple_item st (show s.heap.IsTuple a its.toArray from p) (x := u) (by simpa using hu) fun h' st' sb => ?_
    have I1 : Inv X pins σ H { s with heap := h' } := I.turned (t' := s.toks) (fun b o hb e => (sb.2 b hb).trans e) f0 f1 f3 f4 f5
    obtain ⟨o, e, c, d⟩ := id st'
    exact ⟨u, rfl, go_of (s := { s with heap := h' }) e c d (by decide) ⟨x, H, I1, ru, ⟨rfl, fun ys hy => by rw [I.tuple_inj hy hq]; exact hx⟩, st', fun b hb => (hf b hb).1⟩⟩
  done := by
    intro X hP hw hK hc i pins s σ H E I hf st hg
    subst hP hw hK
    obtain ⟨xs, hq, hx⟩ := hg
    obtain ⟨its, rv, p, hz⟩ := I.tuple hq
    obtain ⟨f0, f1, f2, f3, f4, f5⟩ := hf it (by simp)
    have hl := rv.length
    exact wpAny_pyNext_tuple_end (I.ok.hd hc) st (show s.heap.IsTuple a its.toArray from p) (by simp; (first | lia | omega)) fun h' eb => ⟨rfl, I.turned (t' := s.toks) (fun b o hb e => eb b o hb e) f0 f1 f3 f4 f5⟩
  self := fun _ _ _ _ _ st h => wpAny_pyIter_tupleiter st h
theorem turn_range {P : Program} {w : World} {K : PySem.W.Frag} {tg : Expr} (it : Addr) (lo : Int) (n : Nat) : Turn P w K tg (Itr lo n) [it] it (fun i h => IsRangeIter h it (lo + (i : Nat) * 1) ((n : Int) - (i : Nat)) 1) where
  mem := by simp
  obj := fun i h st b hb => by
    have e : b = it := by simpa using hb
    subst e
    exact ⟨_, st, fun v z => by
      have z' : Data.fields _ = Data.cell v := z
      cases z'⟩
  keep := fun i h h' st k => k it (by simp) _ st
  item := by
    intro X hP hw hK hc i pins s σ H E I hf st hg
    subst hP hw hK
    obtain ⟨f0, f1, f2, f3, f4, f5⟩ := hf it (by simp)
    have W := Walks.range (prog := X.prog) (w := X.w) (I.ok.hd hc) it lo 1 n
    refine W.item i s _ _ hg st fun v h' tk hv st' kk => ?_
    obtain ⟨t, rfl⟩ := hv
    have I1 : Inv X pins σ H { s with heap := h', toks := tk } := I.turned (fun b o hb e => kk b o (by simpa using hb) e) f0 f1 f3 f4 f5
    refine ⟨_, rfl, go_of (s := { s with heap := h', toks := tk }) (n := "range_iterator") st' rfl rfl (by decide) ⟨.int (lo + i), H, I1, ⟨t, ?_⟩, ⟨rfl, rfl⟩, st', fun b hb => (hf b hb).1⟩⟩
    rw [Int.mul_one]
  done := by
    intro X hP hw hK hc i pins s σ H E I hf st hg
    subst hP hw hK
    obtain ⟨f0, f1, f2, f3, f4, f5⟩ := hf it (by simp)
    exact wpAny_pyNext_range_end (I.ok.hd hc) st (by have : n ≤ i := hg; (first | lia | omega)) fun h' eb => ⟨rfl, I.turned (t' := s.toks) (fun b o hb e => eb b o hb e) f0 f1 f3 f4 f5⟩
  self := fun _ _ _ _ _ st h => wpAny_pyIter_rangeiter st h
end L2
namespace L2
open PySem PySem.Spec PyProof.Rows
section
variable {X : Cx} {tg : Expr}
inductive iList_r (K : PySem.W.Frag) (R : It → Hp → Prop) (x : V) (H1 : Hp) : Prop
  | mk : ∀ a, (x = .ref a) → ((∃ xs, SqL K H1 a xs)) → (R (Itl K a) H1) → iList_r K R x H1
noncomputable def iList (K : PySem.W.Frag) (tl : TE) : TI := fun σ H R => tl σ H fun x H1 => iList_r K R x H1
inductive iTup_r (K : PySem.W.Frag) (R : It → Hp → Prop) (x : V) (H1 : Hp) : Prop
  | mk : ∀ a, (x = .ref a) → ((∃ xs, SqT K H1 a xs)) → (R (Itt K a) H1) → iTup_r K R x H1
noncomputable def iTup (K : PySem.W.Frag) (tl : TE) : TI := fun σ H R => tl σ H fun x H1 => iTup_r K R x H1
theorem pi_list {l : Expr} {tl : TE} (hl : PE X l tl) : PI X tg l (iList X.K tl) := by
  intro pins s σ H R I h
  refine thn (hl pins s σ H _ I h) ?_
  rintro v s1 ⟨x, H1, I1, r1, q1⟩
  obtain ⟨a, e, ⟨xs, hq⟩, q⟩ := q1
  subst e
  cases r1
  obtain ⟨its, rv, p, hz⟩ := I1.list hq
  refine wpAny_pyIter_list p.isList ?_
  refine ⟨s1.heap.objs.size, [s1.heap.objs.size], _, _, H1, rfl, I1.kept (t' := s1.toks) fun b o e => Heap.get?_push_of_some _ e, turn_list a _, ⟨_, Heap.get?_push_size _ rfl, rfl, rfl⟩, fun b hb => ?_, q⟩
  have e : b = s1.heap.objs.size := by simpa using hb
  subst e
  exact I1.fpOk (Nat.le_refl _) (I1.hok.fresh (Nat.le_refl _))
theorem pi_tup {l : Expr} {tl : TE} (hl : PE X l tl) : PI X tg l (iTup X.K tl) := by
  intro pins s σ H R I h
  refine thn (hl pins s σ H _ I h) ?_
  rintro v s1 ⟨x, H1, I1, r1, q1⟩
  obtain ⟨a, e, ⟨xs, hq⟩, q⟩ := q1
  subst e
  cases r1
  obtain ⟨its, rv, p, hz⟩ := I1.tuple hq
  refine wpAny_pyIter_tuple (show s1.heap.IsTuple a its.toArray from p) ?_
  refine ⟨s1.heap.objs.size, [s1.heap.objs.size], _, _, H1, rfl, I1.kept (t' := s1.toks) fun b o e => Heap.get?_push_of_some _ e, turn_tuple a _, ⟨_, Heap.get?_push_size _ rfl, rfl, rfl⟩, fun b hb => ?_, q⟩
  have e : b = s1.heap.objs.size := by simpa using hb
  subst e
  exact I1.fpOk (Nat.le_refl _) (I1.hok.fresh (Nat.le_refl _))
theorem range_it {pins : List (Addr × Obj)} {σ : St} {H : Hp} {s : Shared} {R : It → Hp → Prop} {E : Value → Shared → Prop} {lo hi : Int} {t u v : Tok} {tk : Nat} (I : Inv X pins σ H s) (h1 : -(2 ^ 62) ≤ lo) (h2 : lo < 2 ^ 62) (h3 : -(2 ^ 62) ≤ hi) (h4 : hi < 2 ^ 62)
    (q : R (Itr lo (hi - lo).toNat) H) : wpAny (model X.prog X.w) X.A (pyIter (.ref s.heap.objs.size)) (PIE X pins σ tg R) E { s with heap := s.heap.push { cls := .type "range", data := .fields #[.int lo t, .int hi u, .int 1 v] }, toks := tk } := by
  refine wpAny_pyIter_range (IsRange.new ..) (small_one h1 h2 h3 h4) ?_
  have I1 : Inv X pins σ H { s with heap := s.heap.push { cls := .type "range", data := .fields #[.int lo t, .int hi u, .int 1 v] }, toks := tk } := I.kept fun b o e => Heap.get?_push_of_some _ e
  refine ⟨(s.heap.push { cls := .type "range", data := .fields #[.int lo t, .int hi u, .int 1 v] }).objs.size, [(s.heap.push { cls := .type "range", data := .fields #[.int lo t, .int hi u, .int 1 v] }).objs.size], _, _, H, rfl,
    I1.kept (t' := tk) fun b o e => Heap.get?_push_of_some _ e, turn_range _ lo (hi - lo).toNat, ?_, fun b hb => ?_, q⟩
  · have e1 : lo + ((0 : Nat) : Int) * 1 = lo := by simp
    have e2 : (((hi - lo).toNat : Nat) : Int) - ((0 : Nat) : Int) = Builtin.Range.rangeSize lo hi 1 := by rw [rangeSize_one]; split <;> (first | lia | omega)
    show IsRangeIter _ _ (lo + ((0 : Nat) : Int) * 1) ((((hi - lo).toNat : Nat) : Int) - ((0 : Nat) : Int)) 1
    rw [e1, e2]
    exact Heap.get?_push_size _ rfl
  · have e : b = (s.heap.push { cls := .type "range", data := .fields #[.int lo t, .int hi u, .int 1 v] }).objs.size := by simpa using hb
    subst e
    exact I1.fpOk (Nat.le_refl _) (I1.hok.fresh (Nat.le_refl _))
inductive iRng1_r (R : It → Hp → Prop) (vs : List V) (H1 : Hp) : Prop
  | mk : ∀ j : Int, (vs = [.int j]) → (-(2 ^ 62) ≤ j) → (j < 2 ^ 62) → (R (Itr 0 j.toNat) H1) → iRng1_r R vs H1
noncomputable def iRng1 (ta : TA) : TI := fun σ H R => ta σ H fun vs H1 => iRng1_r R vs H1
inductive iRng2_r (R : It → Hp → Prop) (vs : List V) (H1 : Hp) : Prop
  | mk : ∀ i j : Int, (vs = [.int i, .int j]) → ((-(2 ^ 62) ≤ i ∧ i < 2 ^ 62 ∧ -(2 ^ 62) ≤ j ∧ j < 2 ^ 62)) → (R (Itr i (j - i).toNat) H1) → iRng2_r R vs H1
noncomputable def iRng2 (ta : TA) : TI := fun σ H R => ta σ H fun vs H1 => iRng2_r R vs H1
theorem pi_range1 {a : Expr} {ta : TA} {p pos : Pos} (hg : Gl X "range") (hm : X.mg "range" = none) (ha : PA X [a] ta) (hs : starEach [a] X.env = [(false, eval a X.env)] := by rfl) : PI X tg (.Call (.Name "range" p) [a] [] pos) (iRng1 ta) := by
  intro pins s σ H R I h
  refine Call_ (ld_blt I hg hm boot_range (PyProof.Rows.callWith_type1 (thnA (ha pos pins s σ H _ I h) fun us s1 vs H1 I1 r1 q1 => ?_) hs rfl))
  obtain ⟨j, e, q1, q2, q⟩ := q1
  subst e
  cases r1 with
  | cons r rr =>
    cases rr
    obtain ⟨t, rfl⟩ := r
    exact call_range_1 (range_it I1 om om q1 q2 (by simpa using q))
theorem pi_range2 {a b : Expr} {ta : TA} {p pos : Pos} (hg : Gl X "range") (hm : X.mg "range" = none) (ha : PA X [a, b] ta) (hs : starEach [a, b] X.env = [(false, eval a X.env), (false, eval b X.env)] := by rfl) (hs2 : starEach [b] X.env = [(false, eval b X.env)] := by rfl) :
    PI X tg (.Call (.Name "range" p) [a, b] [] pos) (iRng2 ta) := by
  intro pins s σ H R I h
  refine Call_ (ld_blt I hg hm boot_range (PyProof.Rows.callWith_type1 (thnA (ha pos pins s σ H _ I h) fun us s1 vs H1 I1 r1 q1 => ?_) (by rw [hs, hs2]) (by rw [hs2]; rfl)))
  obtain ⟨i, j, e, ⟨q1, q2, q3, q4⟩, q⟩ := q1
  subst e
  cases r1 with
  | cons r rr =>
    cases rr with
    | cons r' rr =>
      cases rr
      obtain ⟨t, rfl⟩ := r
      obtain ⟨t', rfl⟩ := r'
      exact call_range_2 (range_it I1 q1 q2 q3 q4 q)
noncomputable def tFor (wi : TI) (g : TG) (tb : TS) : TS := fun D σ H => wi σ H fun J H1 => ∃ W : Nat → Nat → St → Hp → Prop, (∃ m, W 0 m σ H1) ∧ ∀ i m σ H, W i m σ H →
  (J.stop i H ∧ D.nx σ H) ∨ (J.go i H ∧ ∃ N : St → Hp → Prop, (∀ σ' H', N σ' H' → ∃ m', m' < m ∧ W (i + 1) m' σ' H') ∧ ∀ x H', J.yld i H x H' → g x σ H' fun σ2 H2 => tb { D with nx := N, ct := N, bk := D.nx } σ2 H2)
noncomputable def pinsAt (fp : List Addr) (h : Heap) : List (Addr × Obj) := fp.filterMap fun b => (h.get? b).map fun o => (b, o)
theorem mem_pinsAt {fp : List Addr} {h : Heap} {b : Addr} {o : Obj} (hb : b ∈ fp) (e : h.get? b = some o) : (b, o) ∈ pinsAt fp h := List.mem_filterMap.mpr ⟨b, hb, by rw [e]; rfl⟩
theorem of_pinsAt {fp : List Addr} {h : Heap} {p : Addr × Obj} (hp : p ∈ pinsAt fp h) : p.1 ∈ fp ∧ h.get? p.1 = some p.2 := by
  obtain ⟨b, hb, e⟩ := List.mem_filterMap.mp hp
  cases q : h.get? b with
  | none => rw [q] at e; cases e
  | some o =>
    rw [q] at e
    have e' : (b, o) = p := Option.some.inj e
    subst e'
    exact ⟨hb, q⟩
theorem Inv.pinned {pins : List (Addr × Obj)} {σ : St} {H : Hp} {s : Shared} {fp : List Addr} (I : Inv X pins σ H s) (hf : ∀ b ∈ fp, FpOk X pins H b) (ho : ∀ b ∈ fp, ∃ o, s.heap.get? b = some o ∧ ∀ v, o.data ≠ .cell v) : Inv X (pins ++ pinsAt fp s.heap) σ H s :=
  I.pins_of fun p hp => (List.mem_append.mp hp).elim (fun z => I.pin p (List.mem_append_right _ z)) fun z => by
    obtain ⟨hb, e⟩ := of_pinsAt z
    obtain ⟨f0, f1, f2, -⟩ := hf p.1 hb
    obtain ⟨o, e', d⟩ := ho p.1 hb
    rw [e] at e'; cases e'
    exact ⟨e, f0, f1, f2, d⟩
theorem Inv.unpinned {pins pl : List (Addr × Obj)} {σ : St} {H : Hp} {s : Shared} (I : Inv X (pins ++ pl) σ H s) : Inv X pins σ H s := I.pins_of fun p hp => I.pin p (List.mem_append_right _ (List.mem_append_left _ hp))
theorem ps_for {iter : Expr} {body : List Stmt} {wi : TI} {g : TG} {tb : TS} {pos : Pos} (hp : PassesOwn (model X.prog X.w) X.A X.env X.xe) (hc : X.calm = true) (hi : PI X tg iter wi) (hg : PG X tg g) (hb : PSs X body tb)
    (hs : ∀ x, foldedSetIterable iter X.env x = pure x := by intro _; rfl) : PS X (.For tg iter body [] pos) (tFor wi g tb) := by
  intro pins s σ H D I h
  refine wpAny_For (thn (hi pins s σ H _ I h) fun v s1 h1 => thn h1 fun itv s2 h2 => ?_) hs
  obtain ⟨it, fp, tn, J, H2, e, I2, T, st2, f2, W, ⟨m0, w0⟩, turn⟩ := h2
  subst e
  have stat : ∀ {H' : Hp}, (∀ b ∈ fp, H' b = none) → ∀ b ∈ fp, FpOk X pins H' b := fun hn b hb => ⟨hn b hb, (f2 b hb).2⟩
  refine codeAny_forLoop_any (fun n s' => ∃ i σ' H', Inv X pins σ' H' s' ∧ tn i s'.heap ∧ (∀ b ∈ fp, H' b = none) ∧ W i n σ' H') ?_ m0 ⟨0, σ, H2, I2, st2, fun b hb => (f2 b hb).1, w0⟩
  rintro n s3 ⟨i, σ3, H3, I3, st3, fr3, w3⟩
  rcases turn i n σ3 H3 w3 with ⟨stop, qn⟩ | ⟨go, N, hN, step⟩
  · refine wpAny_passesOwn hp (thn (T.done X rfl rfl rfl hc i pins s3 σ3 H3 X.xe I3 (stat fr3) st3 stop) ?_)
    rintro r s4 ⟨hr, I4⟩
    subst hr
    exact wpAny_execs_nil ⟨σ3, H3, I4, qn⟩
  · refine wpAny_passesOwn hp (thn (T.item X rfl rfl rfl hc i pins s3 σ3 H3 X.xe I3 (stat fr3) st3 go) ?_)
    rintro r s4 ⟨u, hr, h4⟩
    subst hr
    refine wpAny_passesOwn hp (thn h4 ?_)
    rintro _ s5 ⟨x, H5, I5, r5, y5, st5, fr5⟩
    have I5' := I5.pinned (stat fr5) (T.obj _ _ st5)
    refine wpAny_passesOwn hp (thn (hg _ s5 σ3 H5 x u _ I5' r5 (step x H5 y5)) ?_)
    rintro _ s6 ⟨σ6, H6, I6, q6⟩
    refine wpAny_passesOwn hp (thn (hb _ s6 σ6 H6 _ I6 q6) fun f s7 q7 => ?_)
    have again : ∀ {σ7 : St} {H7 : Hp}, Inv X (pins ++ pinsAt fp s5.heap) σ7 H7 s7 → N σ7 H7 → ∃ m, m < n ∧ ∃ i σ' H', Inv X pins σ' H' s7 ∧ tn i s7.heap ∧ (∀ b ∈ fp, H' b = none) ∧ W i m σ' H' := fun {σ7 H7} I7 n7 => by
      obtain ⟨m', hm, w7⟩ := hN σ7 H7 n7
      refine ⟨m', hm, i + 1, σ7, H7, I7.unpinned, T.keep _ _ _ st5 fun b hb o e => (I7.pin (b, o) (List.mem_append_right _ (List.mem_append_right _ (mem_pinsAt hb e)))).1, fun b hb => ?_, w7⟩
      obtain ⟨o, e, d⟩ := T.obj _ _ st5 b hb
      exact (I7.pin (b, o) (List.mem_append_right _ (List.mem_append_right _ (mem_pinsAt hb e)))).2.1
    cases f with
    | next => obtain ⟨σ7, H7, I7, n7⟩ := q7; exact again I7 n7
    | cont => obtain ⟨σ7, H7, I7, n7⟩ := q7; exact again I7 n7
    | brk => obtain ⟨σ7, H7, I7, q7⟩ := q7; exact ⟨σ7, H7, I7.unpinned, q7⟩
    | ret v => obtain ⟨x7, σ7, H7, I7, r7, q7⟩ := q7; exact ⟨x7, σ7, H7, I7.unpinned, r7, q7⟩
end
theorem for_list {K : PySem.W.Frag} {a : Addr} {xs : List V} {g : TG} {tb : TS} {D : Ends} {σ : St} {H : Hp} (Pv : Nat → St → Hp → Prop) (h0 : Pv 0 σ H) (hl : ∀ i σ H, i ≤ xs.length → Pv i σ H → SqL K H a xs)
    (hs : ∀ i x σ H, xs[i]? = some x → Pv i σ H → g x σ H fun σ2 H2 => tb { D with nx := Pv (i + 1), ct := Pv (i + 1), bk := D.nx } σ2 H2) (hd : ∀ σ H, Pv xs.length σ H → D.nx σ H) :
    ∃ W : Nat → Nat → St → Hp → Prop, (∃ m, W 0 m σ H) ∧ ∀ i m σ H, W i m σ H →
      ((Itl K a).stop i H ∧ D.nx σ H) ∨ ((Itl K a).go i H ∧ ∃ N : St → Hp → Prop, (∀ σ' H', N σ' H' → ∃ m', m' < m ∧ W (i + 1) m' σ' H') ∧ ∀ x H', (Itl K a).yld i H x H' → g x σ H' fun σ2 H2 => tb { D with nx := N, ct := N, bk := D.nx } σ2 H2) := by
  refine ⟨fun i m σ H => m = xs.length - i ∧ i ≤ xs.length ∧ Pv i σ H, ⟨xs.length, by simp, Nat.zero_le _, h0⟩, ?_⟩
  rintro i m σ H ⟨rfl, hi, p⟩
  have q := hl i σ H hi p
  by_cases hlt : i < xs.length
  · refine .inr ⟨⟨xs, xs[i], q, by simp [hlt]⟩, Pv (i + 1), fun σ' H' p' => ⟨xs.length - (i + 1), om, rfl, hlt, p'⟩, fun x H' y => ?_⟩
    obtain ⟨e, y⟩ := y
    subst e
    exact hs i x σ _ (y xs q) p
  · have e : i = xs.length := by first | lia | omega
    subst e
    exact .inl ⟨⟨xs, q, Nat.le_refl _⟩, hd σ H p⟩
theorem for_tup {K : PySem.W.Frag} {a : Addr} {xs : List V} {g : TG} {tb : TS} {D : Ends} {σ : St} {H : Hp} (Pv : Nat → St → Hp → Prop) (h0 : Pv 0 σ H) (hl : ∀ i σ H, i ≤ xs.length → Pv i σ H → SqT K H a xs)
    (hs : ∀ i x σ H, xs[i]? = some x → Pv i σ H → g x σ H fun σ2 H2 => tb { D with nx := Pv (i + 1), ct := Pv (i + 1), bk := D.nx } σ2 H2) (hd : ∀ σ H, Pv xs.length σ H → D.nx σ H) :
    ∃ W : Nat → Nat → St → Hp → Prop, (∃ m, W 0 m σ H) ∧ ∀ i m σ H, W i m σ H →
      ((Itt K a).stop i H ∧ D.nx σ H) ∨ ((Itt K a).go i H ∧ ∃ N : St → Hp → Prop, (∀ σ' H', N σ' H' → ∃ m', m' < m ∧ W (i + 1) m' σ' H') ∧ ∀ x H', (Itt K a).yld i H x H' → g x σ H' fun σ2 H2 => tb { D with nx := N, ct := N, bk := D.nx } σ2 H2) := by
  refine ⟨fun i m σ H => m = xs.length - i ∧ i ≤ xs.length ∧ Pv i σ H, ⟨xs.length, by simp, Nat.zero_le _, h0⟩, ?_⟩
  rintro i m σ H ⟨rfl, hi, p⟩
  have q := hl i σ H hi p
  by_cases hlt : i < xs.length
  · refine .inr ⟨⟨xs, xs[i], q, by simp [hlt]⟩, Pv (i + 1), fun σ' H' p' => ⟨xs.length - (i + 1), om, rfl, hlt, p'⟩, fun x H' y => ?_⟩
    obtain ⟨e, y⟩ := y
    subst e
    exact hs i x σ _ (y xs q) p
  · have e : i = xs.length := by first | lia | omega
    subst e
    exact .inl ⟨⟨xs, q, Nat.le_refl _⟩, hd σ H p⟩
theorem for_range {lo : Int} {n : Nat} {g : TG} {tb : TS} {D : Ends} {σ : St} {H : Hp} (Pv : Nat → St → Hp → Prop) (h0 : Pv 0 σ H)
    (hs : ∀ i σ H, i < n → Pv i σ H → g (.int (lo + i)) σ H fun σ2 H2 => tb { D with nx := Pv (i + 1), ct := Pv (i + 1), bk := D.nx } σ2 H2) (hd : ∀ σ H, Pv n σ H → D.nx σ H) :
    ∃ W : Nat → Nat → St → Hp → Prop, (∃ m, W 0 m σ H) ∧ ∀ i m σ H, W i m σ H →
      ((Itr lo n).stop i H ∧ D.nx σ H) ∨ ((Itr lo n).go i H ∧ ∃ N : St → Hp → Prop, (∀ σ' H', N σ' H' → ∃ m', m' < m ∧ W (i + 1) m' σ' H') ∧ ∀ x H', (Itr lo n).yld i H x H' → g x σ H' fun σ2 H2 => tb { D with nx := N, ct := N, bk := D.nx } σ2 H2) := by
  refine ⟨fun i m σ H => m = n - i ∧ i ≤ n ∧ Pv i σ H, ⟨n, by simp, Nat.zero_le _, h0⟩, ?_⟩
  rintro i m σ H ⟨rfl, hi, p⟩
  by_cases hlt : i < n
  · refine .inr ⟨hlt, Pv (i + 1), fun σ' H' p' => ⟨n - (i + 1), om, rfl, hlt, p'⟩, fun x H' y => ?_⟩
    obtain ⟨e, y⟩ := y
    subst e y
    exact hs i σ _ hlt p
  · have e : i = n := by first | lia | omega
    subst e
    exact .inl ⟨Nat.le_refl _, hd σ H p⟩
end L2
namespace L2
open PySem PySem.Spec PyProof.Rows
noncomputable abbrev R2 := V → V → Hp → VK → Prop
noncomputable def OpR (X : Cx) (f : Value → Value → Sem Value) (r : R2) : Prop :=
  ∀ (pins : List (Addr × Obj)) (s : Shared) (σ : St) (H : Hp) (x y : V) (v u : Value) (Q : VK), Inv X pins σ H s → RelV x v → RelV y u → r x y H Q →
    wpAny (model X.prog X.w) X.A (f v u) (EP X pins σ Q) X.xe s
noncomputable def CallR (X : Cx) (f : Value) (r : List V → Hp → VK → Prop) : Prop :=
  ∀ (pins : List (Addr × Obj)) (s : Shared) (σ : St) (H : Hp) (xs : List V) (us : List Value) (Q : VK), Inv X pins σ H s → Vals xs us → r xs H Q →
    wpAny (model X.prog X.w) X.A (call f us) (EP X pins σ Q) X.xe s
noncomputable def TruR (X : Cx) (r : V → Hp → (Bool → Hp → Prop) → Prop) : Prop :=
  ∀ (pins : List (Addr × Obj)) (s : Shared) (σ : St) (H : Hp) (x : V) (v : Value) (Q : Bool → Hp → Prop), Inv X pins σ H s → RelV x v → r x H Q →
    wpAny (model X.prog X.w) X.A (truthy v) (TP X pins σ Q) X.xe s
noncomputable def tOp (r : R2) (ta tb : TE) : TE := fun σ H Q => ta σ H fun x H1 => tb σ H1 fun y H2 => r x y H2 Q
inductive rI_r (C : Int → Int → Prop) (g : Int → Int → V) (x : V) (y : V) (H : Hp) (Q : VK) : Prop
  | mk : ∀ i j, (x = .int i) → (y = .int j) → (C i j) → (Q (g i j) H) → rI_r C g x y H Q
noncomputable def rI (C : Int → Int → Prop) (g : Int → Int → V) : R2 := fun x y H Q => rI_r C g x y H Q
inductive rI0_r (g : Int → Int → V) (x : V) (y : V) (H : Hp) (Q : VK) : Prop
  | mk : ∀ i j, (x = .int i) → (y = .int j) → (Q (g i j) H) → rI0_r g x y H Q
noncomputable def rI0 (g : Int → Int → V) : R2 := fun x y H Q => rI0_r g x y H Q
section
variable {X : Cx} {a b c : Expr} {ta tb tc : TE} {pos : Pos}
theorem binT (ha : PE X a ta) (hb : PE X b tb) {pins : List (Addr × Obj)} {s : Shared} {σ : St} {H : Hp} {R : V → V → Hp → Prop} (I : Inv X pins σ H s)
    (h : ta σ H fun x H1 => tb σ H1 fun y H2 => R x y H2) {Q : Value → Shared → Prop} {f : Value → Value → Sem Value}
    (hf : ∀ v u s2 x y H2, Inv X pins σ H2 s2 → RelV x v → RelV y u → R x y H2 → wpAny (model X.prog X.w) X.A (f v u) Q X.xe s2) :
    wpAny (model X.prog X.w) X.A (eval a X.env) (fun v s₁ => wpAny (model X.prog X.w) X.A (eval b X.env) (fun u s₂ => wpAny (model X.prog X.w) X.A (f v u) Q X.xe s₂) X.xe s₁) X.xe s := by
  refine thnE (ha pins s σ H _ I h) fun v s1 x H1 I1 r1 q1 => ?_
  refine thnE (hb pins s1 σ H1 _ I1 q1) fun u s2 y H2 I2 r2 q2 => ?_
  exact hf v u s2 x y H2 I2 r1 r2 q2
theorem pe_op {op : Operator} {r : R2} (ho : OpR X (binaryOp op) r) (ha : PE X a ta) (hb : PE X b tb) : PE X (.BinOp a op b pos) (tOp r ta tb) := by
  intro pins s σ H Q I h
  exact wpAny_BinOp (binT ha hb I h fun v u s2 x y H2 I2 rx ry q => ho pins s2 σ H2 x y v u Q I2 rx ry q)
theorem opI {f : Value → Value → Sem Value} {C : Int → Int → Prop} {g : Int → Int → Int}
    (rule : ∀ (i j : Int) (t u : Tok) (s : Shared) (Q : Value → Shared → Prop) (E : Value → Shared → Prop), C i j → Q (.int (g i j) s.toks) { s with toks := s.toks + 1 } → wpAny (model X.prog X.w) X.A (f (.int i t) (.int j u)) Q E s) :
    OpR X f (rI C fun i j => .int (g i j)) := by
  intro pins s σ H x y v u Q I rx ry h
  obtain ⟨i, j, rfl, rfl, hc, q⟩ := h
  obtain ⟨t, rfl⟩ := rx
  obtain ⟨t', rfl⟩ := ry
  exact rule i j t t' s _ _ hc ⟨.int (g i j), H, I.tok _, ⟨_, rfl⟩, q⟩
theorem opI0 {f : Value → Value → Sem Value} {g : Int → Int → Int}
    (rule : ∀ (i j : Int) (t u : Tok) (s : Shared) (Q : Value → Shared → Prop) (E : Value → Shared → Prop), Q (.int (g i j) s.toks) { s with toks := s.toks + 1 } → wpAny (model X.prog X.w) X.A (f (.int i t) (.int j u)) Q E s) :
    OpR X f (rI0 fun i j => .int (g i j)) := by
  intro pins s σ H x y v u Q I rx ry h
  obtain ⟨i, j, rfl, rfl, q⟩ := h
  obtain ⟨t, rfl⟩ := rx
  obtain ⟨t', rfl⟩ := ry
  exact rule i j t t' s _ _ ⟨.int (g i j), H, I.tok _, ⟨_, rfl⟩, q⟩
theorem opB0 {f : Value → Value → Sem Value} {g : Int → Int → Bool}
    (rule : ∀ (i j : Int) (t u : Tok) (s : Shared) (Q : Value → Shared → Prop) (E : Value → Shared → Prop), Q (.bool (g i j)) s → wpAny (model X.prog X.w) X.A (f (.int i t) (.int j u)) Q E s) :
    OpR X f (rI0 fun i j => .bl (g i j)) := by
  intro pins s σ H x y v u Q I rx ry h
  obtain ⟨i, j, rfl, rfl, q⟩ := h
  obtain ⟨t, rfl⟩ := rx
  obtain ⟨t', rfl⟩ := ry
  exact rule i j t t' s _ _ ⟨.bl (g i j), H, I, rfl, q⟩
noncomputable def CDiv (i j : Int) : Prop := 0 < j ∧ j < 1073741824
noncomputable def CPow (i j : Int) : Prop := 0 ≤ j ∧ j ≤ 1000000 ∧ i.natAbs < 2 ^ 64
noncomputable def CMul (i j : Int) : Prop := (-(2 ^ 64) < i ∧ i < 2 ^ 64) ∨ (-(2 ^ 64) < j ∧ j < 2 ^ 64)
theorem CMul.ok {i j : Int} (h : CMul i j) : IntMulOk i j := by
  rcases h with ⟨h1, h2⟩ | ⟨h1, h2⟩
  · exact .of_left (intBits_le_64 h1 h2)
  · exact .of_right (intBits_le_64 h1 h2)
theorem op_add : OpR X (binaryOp .Add) (rI0 fun i j => .int (i + j)) := opI0 fun _ _ _ _ _ _ _ q => add_int q
theorem op_sub : OpR X (binaryOp .Sub) (rI0 fun i j => .int (i - j)) := opI0 fun _ _ _ _ _ _ _ q => sub_int q
theorem op_mul : OpR X (binaryOp .Mult) (rI CMul fun i j => .int (i * j)) := opI fun _ _ _ _ _ _ _ hc q => mul_int q hc.ok
theorem op_fdiv : OpR X (binaryOp .FloorDiv) (rI CDiv fun i j => .int (i / j)) := opI fun i j _ _ _ _ _ hc q => by
  have h1 : (0 : Int) < j := hc.1
  have h2 : j < 1073741824 := hc.2
  exact floordiv_int om (by rw [Int.fdiv_eq_ediv_of_nonneg i om]; exact q) (.inl (PyProof.noPylong_small om))
theorem op_mod : OpR X (binaryOp .Mod) (rI (fun _ j => 0 < j) fun i j => .int (i % j)) := opI fun i j _ _ _ _ _ hc q => by
  have h1 : (0 : Int) < j := hc
  exact mod_int' om (by rw [Int.fmod_eq_emod_of_nonneg i om]; exact q)
theorem op_pow : OpR X (binaryOp .Pow) (rI CPow fun i j => .int (i ^ j.toNat)) := opI fun _ _ _ _ _ _ _ hc q => pow_int_small hc.1 hc.2.1 hc.2.2 q
end
noncomputable def scal : V → V → Bool
  | .non, .non => true | .non, .int _ => true | .int _, .non => true | .non, .bl _ => true | .bl _, .non => true | .non, .str _ => true | .str _, .non => true
  | .int _, .int _ => true | .bl _, .bl _ => true | .str _, .str _ => true | .byt _, .byt _ => true
  | .int _, .str _ => true | .str _, .int _ => true | .bl _, .str _ => true | .str _, .bl _ => true
  | _, _ => false
inductive rEq_r (x : V) (y : V) (H : Hp) (Q : VK) : Prop
  | mk : (scal x y = true) → (Q (.bl (decide (x = y))) H) → rEq_r x y H Q
noncomputable def rEq : R2 := fun x y H Q => rEq_r x y H Q
inductive rNe_r (x : V) (y : V) (H : Hp) (Q : VK) : Prop
  | mk : (scal x y = true) → (Q (.bl (!decide (x = y))) H) → rNe_r x y H Q
noncomputable def rNe : R2 := fun x y H Q => rNe_r x y H Q
theorem dec_int {i j : Int} : decide (V.int i = V.int j) = (i == j) := by
  rw [Bool.eq_iff_iff]
  simp
theorem dec_bl {i j : Bool} : decide (V.bl i = V.bl j) = (i == j) := by
  rw [Bool.eq_iff_iff]
  simp
theorem dec_str {i j : Str} : decide (V.str i = V.str j) = (i == j) := by
  rw [Bool.eq_iff_iff]
  simp
theorem dec_byt {i j : Array UInt8} : decide (V.byt i = V.byt j) = (i.toList == j.toList) := by
  rw [Bool.eq_iff_iff]
  cases i
  cases j
  simp
section
variable {X : Cx} {a b c : Expr} {ta tb tc : TE} {pos : Pos}
theorem fin_bl {pins : List (Addr × Obj)} {σ : St} {H : Hp} {s : Shared} {Q : VK} {k k' : Bool} (I : Inv X pins σ H s) (q : Q (.bl k) H) (e : k = k') : EP X pins σ Q (.bool k') s := by
  subst e
  exact ⟨.bl k, H, I, rfl, q⟩
theorem op_eq : OpR X (compareOp .Eq) rEq := by
  intro pins s σ H x y v u Q I rx ry h
  obtain ⟨hs, q⟩ := h
  cases x with
  | non =>
    cases rx
    cases y with
    | non => cases ry; exact PySem.EqNone.eq_none_none (fin_bl I q (by simp))
    | bl j => cases ry; exact PySem.EqNone.eq_none_bool (fin_bl I q (by simp))
    | int j => obtain ⟨t', rfl⟩ := ry; exact PySem.EqNone.eq_none_int (fin_bl I q (by simp))
    | str j => obtain ⟨t', rfl⟩ := ry; exact PySem.EqNone.eq_none_str (fin_bl I q (by simp))
    | _ => exact absurd (show false = true from hs) Bool.false_ne_true
  | bl i =>
    cases rx
    cases y with
    | non => cases ry; exact PySem.EqNone.eq_bool_none (fin_bl I q (by simp))
    | bl j => cases ry; exact eq_bool (fin_bl I q dec_bl)
    | str j => obtain ⟨t', rfl⟩ := ry; exact PySem.EqMixed.eq_bool_str (fin_bl I q (by simp))
    | _ => exact absurd (show false = true from hs) Bool.false_ne_true
  | int i =>
    obtain ⟨t, rfl⟩ := rx
    cases y with
    | non => cases ry; exact PySem.EqNone.eq_int_none (fin_bl I q (by simp))
    | int j => obtain ⟨t', rfl⟩ := ry; exact eq_int (fin_bl I q dec_int)
    | str j => obtain ⟨t', rfl⟩ := ry; exact PySem.EqMixed.eq_int_str (fin_bl I q (by simp))
    | _ => exact absurd (show false = true from hs) Bool.false_ne_true
  | str i =>
    obtain ⟨t, rfl⟩ := rx
    cases y with
    | non => cases ry; exact PySem.EqNone.eq_str_none (fin_bl I q (by simp))
    | bl j => cases ry; exact PySem.EqMixed.eq_str_bool (fin_bl I q (by simp))
    | int j => obtain ⟨t', rfl⟩ := ry; exact PySem.EqMixed.eq_str_int (fin_bl I q (by simp))
    | str j => obtain ⟨t', rfl⟩ := ry; exact eq_str (fin_bl I q dec_str)
    | _ => exact absurd (show false = true from hs) Bool.false_ne_true
  | byt i =>
    obtain ⟨t, rfl⟩ := rx
    cases y with
    | byt j => obtain ⟨t', rfl⟩ := ry; exact PySem.W.eq_bytes (fin_bl I q dec_byt)
    | _ => exact absurd (show false = true from hs) Bool.false_ne_true
  | _ => cases y <;> exact absurd (show false = true from hs) Bool.false_ne_true
theorem op_ne : OpR X (compareOp .NotEq) rNe := by
  intro pins s σ H x y v u Q I rx ry h
  obtain ⟨hs, q⟩ := h
  cases x with
  | non =>
    cases rx
    cases y with
    | non => cases ry; exact PySem.EqNone.ne_none_none (fin_bl I q (by simp))
    | bl j => cases ry; exact PySem.EqNone.ne_none_bool (fin_bl I q (by simp))
    | int j => obtain ⟨t', rfl⟩ := ry; exact PySem.EqNone.ne_none_int (fin_bl I q (by simp))
    | str j => obtain ⟨t', rfl⟩ := ry; exact PySem.EqNone.ne_none_str (fin_bl I q (by simp))
    | _ => exact absurd (show false = true from hs) Bool.false_ne_true
  | bl i =>
    cases rx
    cases y with
    | non => cases ry; exact PySem.EqNone.ne_bool_none (fin_bl I q (by simp))
    | bl j => cases ry; exact ne_bool (fin_bl I q (congrArg not dec_bl))
    | str j => obtain ⟨t', rfl⟩ := ry; exact PySem.EqMixed.ne_bool_str (fin_bl I q (by simp))
    | _ => exact absurd (show false = true from hs) Bool.false_ne_true
  | int i =>
    obtain ⟨t, rfl⟩ := rx
    cases y with
    | non => cases ry; exact PySem.EqNone.ne_int_none (fin_bl I q (by simp))
    | int j => obtain ⟨t', rfl⟩ := ry; exact ne_int (fin_bl I q (congrArg not dec_int))
    | str j => obtain ⟨t', rfl⟩ := ry; exact PySem.EqMixed.ne_int_str (fin_bl I q (by simp))
    | _ => exact absurd (show false = true from hs) Bool.false_ne_true
  | str i =>
    obtain ⟨t, rfl⟩ := rx
    cases y with
    | non => cases ry; exact PySem.EqNone.ne_str_none (fin_bl I q (by simp))
    | bl j => cases ry; exact PySem.EqMixed.ne_str_bool (fin_bl I q (by simp))
    | int j => obtain ⟨t', rfl⟩ := ry; exact PySem.EqMixed.ne_str_int (fin_bl I q (by simp))
    | str j => obtain ⟨t', rfl⟩ := ry; exact ne_str (fin_bl I q (congrArg not dec_str))
    | _ => exact absurd (show false = true from hs) Bool.false_ne_true
  | byt i =>
    obtain ⟨t, rfl⟩ := rx
    cases y with
    | byt j => obtain ⟨t', rfl⟩ := ry; exact PySem.W.ne_bytes (fin_bl I q (congrArg not dec_byt))
    | _ => exact absurd (show false = true from hs) Bool.false_ne_true
  | _ => cases y <;> exact absurd (show false = true from hs) Bool.false_ne_true
theorem op_lt : OpR X (compareOp .Lt) (rI0 fun i j => .bl (decide (i < j))) := opB0 fun _ _ _ _ _ _ _ q => lt_int q
theorem op_le : OpR X (compareOp .LtE) (rI0 fun i j => .bl (decide (i ≤ j))) := opB0 fun _ _ _ _ _ _ _ q => le_int q
theorem op_gt : OpR X (compareOp .Gt) (rI0 fun i j => .bl (decide (j < i))) := opB0 fun _ _ _ _ _ _ _ q => gt_int q
theorem op_ge : OpR X (compareOp .GtE) (rI0 fun i j => .bl (decide (j ≤ i))) := opB0 fun _ _ _ _ _ _ _ q => ge_int q
theorem op_isN : OpR X (compareOp .Is) (fun x y H Q => y = .non ∧ Q (.bl (decide (x = .non))) H) := by
  intro pins s σ H x y v u Q I rx ry h
  obtain ⟨rfl, q⟩ := h
  cases ry
  refine is_none_gen (fin_bl I q ?_)
  cases x <;> first
    | (cases rx; rfl)
    | (obtain ⟨t, rfl⟩ := rx; rfl)
theorem op_notN : OpR X (compareOp .IsNot) (fun x y H Q => y = .non ∧ Q (.bl (!decide (x = .non))) H) := by
  intro pins s σ H x y v u Q I rx ry h
  obtain ⟨rfl, q⟩ := h
  cases ry
  refine isnot_none_gen (fin_bl I q ?_)
  cases x <;> first
    | (cases rx; rfl)
    | (obtain ⟨t, rfl⟩ := rx; rfl)
theorem nomark (b : Expr) {op : CmpOp} (h : op ≠ .In := by decide) (h2 : op ≠ .NotIn := by decide) : behindInMarks op b = false := by
  have e1 : (op == CmpOp.In) = false := by cases op <;> first | rfl | exact absurd rfl h
  have e2 : (op == CmpOp.NotIn) = false := by cases op <;> first | rfl | exact absurd rfl h2
  cases b <;> simp [behindInMarks, e1, e2]
theorem pe_cmpR {op : CmpOp} {r : R2} (ho : OpR X (compareOp op) r) (ha : PE X a ta) (hb : PE X b tb) (hm : behindInMarks op b = false) : PE X (.Compare a [op] [b] pos) (tOp r ta tb) := by
  intro pins s σ H Q I h
  exact wpAny_Compare1 (binT ha hb I h fun v u s2 x y H2 I2 rx ry q => ho pins s2 σ H2 x y v u Q I2 rx ry q) hm
inductive tTest_r (Q : Bool → Hp → Prop) (x : V) (H' : Hp) : Prop
  | mk : ∀ k, (x = .bl k) → (Q k H') → tTest_r Q x H'
noncomputable def tTest (t : TE) : TT := fun σ H Q => t σ H fun x H' => tTest_r Q x H'
theorem pt_cmpR {op : CmpOp} {r : R2} (ho : OpR X (compareOp op) r) (ha : PE X a ta) (hb : PE X b tb) (hm : behindInMarks op b = false) : PT X (.Compare a [op] [b] pos) (tTest (tOp r ta tb)) := by
  intro pins s σ H Q I h
  refine wpAny_isTrue_Compare1 (thnE (ha pins s σ H _ I h) fun v s1 x H1 I1 r1 q1 => thnE (hb pins s1 σ H1 _ I1 q1) fun u s2 y H2 I2 r2 q2 =>
    thnE (ho pins s2 σ H2 x y v u _ I2 r1 r2 q2) fun c s3 z H3 I3 r3 ⟨k, e, q3⟩ => ?_) hm
  subst e
  cases r3
  exact wpAny_truthy_bool ⟨H3, I3, q3⟩
noncomputable def TruV (K : PySem.W.Frag) (x : V) (H : Hp) (k : Bool) : Prop :=
  match x with
  | .non => k = false
  | .bl b => k = b
  | .int i => k = (i != 0)
  | .str y => y.length ≤ sizeLine ∧ k = ((y.length : Int) != 0)
  | .byt y => y.size ≤ sizeLine ∧ k = ((y.size : Int) != 0)
  | .ref p => (∃ xs, SqL K H p xs ∧ k = !xs.isEmpty) ∨ (∃ xs, SqT K H p xs ∧ k = !xs.isEmpty) ∨ ∃ kvs, H p = some (.dK kvs) ∧ k = !kvs.isEmpty
  | _ => False
theorem isEmpty_kv {κ : Type} {kvs : List (κ × V)} {vs : List (κ × Value)} (r : KV kvs vs) : (!vs.isEmpty) = !kvs.isEmpty := by
  cases r <;> rfl
theorem isEmpty_of {xs : List V} {its : List Value} (r : Vals xs its) : (!its.toArray.isEmpty) = !xs.isEmpty := by
  cases r <;> simp
theorem line63 : (sizeLine : Nat) < 2 ^ 63 := by rw [sizeLine_eq]; decide
theorem tru_ok : TruR X (fun x H Q => ∃ k, TruV X.K x H k ∧ Q k H) := by
  intro pins s σ H x v Q I rx h
  obtain ⟨k, e, q⟩ := h
  have hl := line63
  have hs : sizeLine = 16777216 := sizeLine_eq
  cases x with
  | non =>
    cases rx
    have e' : k = false := e
    subst e'
    exact truthy_none ⟨H, I, q⟩
  | bl b =>
    cases rx
    have e' : k = b := e
    subst e'
    exact wpAny_truthy_bool ⟨H, I, q⟩
  | int i =>
    obtain ⟨t, rfl⟩ := rx
    have e' : k = (i != 0) := e
    subst e'
    exact PySem.P.truthy_int ⟨H, I, q⟩
  | str y =>
    obtain ⟨t, rfl⟩ := rx
    obtain ⟨hy, e'⟩ : y.length ≤ sizeLine ∧ k = ((y.length : Int) != 0) := e
    subst e'
    exact PySem.P.truthy_str om ⟨H, I.tok _, q⟩
  | byt y =>
    obtain ⟨t, rfl⟩ := rx
    obtain ⟨hy, e'⟩ : y.size ≤ sizeLine ∧ k = ((y.size : Int) != 0) := e
    subst e'
    exact PySem.W.truthy_bytes om ⟨H, I.tok _, q⟩
  | ref p =>
    cases rx
    have e' : (∃ xs, SqL X.K H p xs ∧ k = !xs.isEmpty) ∨ (∃ xs, SqT X.K H p xs ∧ k = !xs.isEmpty) ∨ ∃ kvs, H p = some (.dK kvs) ∧ k = !kvs.isEmpty := e
    rcases e' with ⟨xs, hx, e'⟩ | ⟨xs, hx, e'⟩ | ⟨kvs, hx, e'⟩
    · subst e'
      obtain ⟨its, r, pl, hz⟩ := I.list hx
      have hlen := r.length
      exact wpAny_truthy_list pl.isList (by simp only [List.size_toArray]; (first | lia | omega)) ⟨H, I.tok _, by rw [isEmpty_of r]; exact q⟩
    · subst e'
      obtain ⟨its, r, pl, hz⟩ := I.tuple hx
      have hlen := r.length
      exact truthy_tuple pl (by simp only [List.size_toArray]; (first | lia | omega)) ⟨H, I.tok _, by rw [isEmpty_of r]; exact q⟩
    · subst e'
      obtain ⟨hz, hS, vs, r, m⟩ : kvs.length ≤ sizeLine ∧ (p == sysModules) = false ∧ ∃ vs, KV kvs vs ∧ s.heap.DictOf (mixKind X.prog X.w) p vs := I.hok p _ hx
      have hlen : kvs.length = vs.length := Paired.length r
      exact wpAny_truthy_dict hS m (by first | lia | omega) ⟨H, I.tok _, by rw [isEmpty_kv r]; exact q⟩
  | _ => exact (show False from e).elim
theorem pt_truth (ha : PE X a ta) (he : ∀ whole, isTrue a X.env whole = (do let v ← whole; standAt a.pos; holding [v] (truthy v))) :
    PT X a (fun σ H Q => ta σ H fun x H' => ∃ k, TruV X.K x H' k ∧ Q k H') := by
  intro pins s σ H Q I h
  exact isTrue_plain (thnE (ha pins s σ H _ I h) fun v s1 x H1 I1 r1 q1 => tru_ok pins s1 σ H1 x v Q I1 r1 q1) (he _)
theorem vals1 {x : V} {us : List Value} (r : Vals [x] us) : ∃ u, us = [u] ∧ RelV x u := by
  cases r with
  | cons r1 r2 => cases r2; exact ⟨_, rfl, r1⟩
theorem vals2 {x y : V} {us : List Value} (r : Vals [x, y] us) : ∃ u w', us = [u, w'] ∧ RelV x u ∧ RelV y w' := by
  cases r with
  | cons r1 r2 =>
    cases r2 with
    | cons r3 r4 => cases r4; exact ⟨_, _, rfl, r1, r3⟩
inductive rc_0 (xs : List V) (H : Hp) (Q : VK) : Prop
  | mk : ∀ i j, (xs = [.int i, .int j]) → (Q (.int (if j < i then j else i)) H) → rc_0 xs H Q
theorem call_min2 (hc : X.calm = true) : CallR X (.builtin "min") rc_0 := by
  intro pins s σ H xs us Q I r h
  obtain ⟨i, j, rfl, q⟩ := h
  obtain ⟨u, w', rfl, ⟨t, rfl⟩, ⟨t', rfl⟩⟩ := vals2 r
  refine min_two_ints (I.ok.hd hc) fun h' tk k => ⟨_, H, I.kept k, ?_, q⟩
  by_cases hj : j < i
  · rw [if_pos hj, if_pos hj]; exact ⟨_, rfl⟩
  · rw [if_neg hj, if_neg hj]; exact ⟨_, rfl⟩
end
end L2
namespace L2
open PySem PySem.Spec PyProof.Rows
structure ObjM (h : Heap) (x dx C : Addr) (mA : Str → Option Value) : Prop where
  obj : h.get? x = some (PySem.W.instObj C dx)
  ns : h.Ns1 dx mA
  ne : dx ≠ x
theorem lookIn_ns {h : Heap} {dx : Addr} {mA : Str → Option Value} (n : h.Ns1 dx mA) : ∃ od, h.get? dx = some od ∧ ∀ name, PySem.W.lookIn name od = some (mA name) := by
  obtain ⟨o, es, ep, ho, hd, hk, _, hm⟩ := n
  refine ⟨o, ho, fun name => ?_⟩
  have e := hm name
  unfold nsFind findBy at e
  rw [← Array.find?_toList] at e
  unfold PySem.W.lookIn
  rw [hd]
  dsimp only
  split
  · rename_i y q
    rw [q] at e
    exact congrArg some e
  · rename_i q
    rw [q] at e
    have a : es.toList.any (·.refKey) = false := by
      rw [List.any_eq_false]
      intro y hy
      obtain ⟨z, t, hkey⟩ := hk y (Array.mem_toList_iff.mp hy)
      simp [DictEntry.refKey, hkey]
    have a' : ¬ es.toList.any (·.refKey) = true := by rw [a]; exact Bool.false_ne_true
    rw [if_neg a']
    exact congrArg some e
theorem ObjM.look {h : Heap} {x dx C : Addr} {mA : Str → Option Value} (I : ObjM h x dx C mA) : ∃ od, PySem.W.InstAt h x (PySem.W.instObj C dx) C (some od) ∧ ∀ name, PySem.W.lookIn name od = some (mA name) :=
  let ⟨od, ho, hl⟩ := lookIn_ns I.ns
  ⟨od, ⟨I.obj, rfl, rfl, ho⟩, hl⟩
section
variable {prog : Program} {w : World} {A : Around} {E : Value → Shared → Prop} {s : Shared} {K : PySem.W.Frag} {x dx C f : Addr} {mA : Str → Option Value} {name : Str} {v : Value}
end
theorem RelO.some_of {v : V} {o : Option Value} (r : RelO (some v) o) : ∃ u, o = some u ∧ RelV v u := by
  cases o with
  | none => exact (show False from r).elim
  | some u => exact ⟨u, rfl, r⟩
section
variable {P : Program} {w : World} {H H' : Hp} {h h' : Heap} {a C dx : Addr} {fs fs' : List (Str × V)}
theorem ins_get (hok : HOk P w H h) (e : H a = some (.ins C dx fs)) : ∃ mA, ObjM h a dx C mA ∧ (∀ f, RelO (fs.lookup f) (mA f)) ∧ PySem.Within mA (fs.map (·.1)) ∧ fs.length ≤ 1000 ∧ H dx = some (.own a) := by
  obtain ⟨d, z, ne, ob, mA, n, r, q⟩ := (show ObjOk P w H h a (.ins C dx fs) from hok a _ e)
  exact ⟨mA, ⟨ob, n, ne⟩, r, q, z, d⟩
end
structure Cls (K : PySem.W.Frag) (C : Addr) : Prop where
  pg : PySem.W.plainGet K C Str.empty = true
  hd : PySem.W.hasDictIn K C = true
  po : PySem.W.plainOver K C = true
  sa : PySem.W.findIn K (.ref C) "__setattr__" = some (some (.builtin "object.__setattr__"))
theorem Cls.get {K : PySem.W.Frag} {C : Addr} (c : Cls K C) (f : Str) : PySem.W.plainGet K C f = true := c.pg
section
variable {X : Cx} {pins : List (Addr × Obj)} {σ : St} {H : Hp} {s : Shared} {a C dx : Addr} {fs : List (Str × V)} {f : Str} {v : V} {A : Around} {E : Value → Shared → Prop}
end
section
variable {X : Cx} {o e value : Expr} {f : Str} {pos pos' tpos : Pos} {ta tv : TE}
end
section
variable {X : Cx} {pins : List (Addr × Obj)} {σ : St} {H : Hp} {s : Shared} {A : Around} {E : Value → Shared → Prop} {Q : Value → Shared → Prop} {c : Value} {b : Bool}
inductive TyOf (K : PySem.W.Frag) (H : Hp) : V → Value → Prop where
  | non : TyOf K H .non (.type "NoneType")
  | bl (x : Bool) : TyOf K H (.bl x) (.type "bool")
  | int (i : Int) : TyOf K H (.int i) (.type "int")
  | str (x : Str) : TyOf K H (.str x) (.type "str")
  | flt (x : UInt64) : TyOf K H (.flt x) (.type "float")
  | lst {a : Addr} {xs : List V} (e : H a = some (.lst xs)) : TyOf K H (.ref a) (.type "list")
  | frz {a : Addr} {o : Obj} {xs : List V} (e : H a = some (.frz o (.lst xs))) : TyOf K H (.ref a) (.type "list")
  | tup {a : Addr} {xs : List V} (e : H a = some (.tup xs)) : TyOf K H (.ref a) (.type "tuple")
  | dK {a : Addr} {kvs : List (Key × V)} (e : H a = some (.dK kvs)) : TyOf K H (.ref a) (.type "dict")
  | dT {a : Addr} {kvs : List (List Key × V)} (e : H a = some (.dT kvs)) : TyOf K H (.ref a) (.type "dict")
  | ins {a C dx : Addr} {fs : List (Str × V)} (e : H a = some (.ins C dx fs)) (cl : Cls K C) (ha : PySem.W.findIn K (.ref C) "__class__" = some (some (.builtin "object.__class__")))
      (hn : PySem.W.specialIn K (.builtin "object.__class__") "__get__" = some (some (.builtin "getset_descriptor.__get__"))) (htk : PySem.W.takesIn K (.builtin "object.__class__") = some true)
      (hm : PySem.W.mroIn K C (.type "object") = some true) : TyOf K H (.ref a) (.ref C)
theorem isinst_ok {x : V} {u t : Value} (I : Inv X pins σ H s) (rx : RelV x u) (ty : TyOf X.K H x t) (e : PySem.W.kitOne X.K t c = some b) (h : ∀ tk, Q (.bool b) { s with toks := tk }) :
    wpAny (model X.prog X.w) A (call (.builtin "isinstance") [u, c]) Q E s := by
  cases ty with
  | non => cases (show u = Value.none from rx); exact PySem.W.kia_one PySem.W.kitx_none I.kIn True.intro e (fun z => nomatch z) h
  | bl y => cases (show u = Value.bool y from rx); exact PySem.W.kia_one PySem.W.kitx_bool I.kIn True.intro e (fun z => nomatch z) h
  | int i => obtain ⟨t, q⟩ := (show ∃ t, u = Value.int i t from rx); cases q; exact PySem.W.kia_one PySem.W.kitx_int I.kIn True.intro e (fun z => nomatch z) h
  | str y => obtain ⟨t, q⟩ := (show ∃ t, u = Value.str y t from rx); cases q; exact PySem.W.kia_one PySem.W.kitx_str I.kIn True.intro e (fun z => nomatch z) h
  | flt y => obtain ⟨t, q⟩ := (show ∃ t, u = Value.float y t from rx); cases q; exact PySem.W.kia_one PySem.W.kitx_float I.kIn True.intro e (fun z => nomatch z) h
  | @lst a xs ea =>
    cases (show u = Value.ref a from rx)
    obtain ⟨_, _, n, _, h1⟩ := (show ObjOk X.prog X.w H s.heap a (.lst xs) from I.hok a _ ea)
    exact PySem.W.kia_one PySem.W.kitx_list I.kIn ⟨_, h1, rfl⟩ e (fun z => nomatch z) h
  | @frz a ob xs ea =>
    cases (show u = Value.ref a from rx)
    obtain ⟨_, _, _, n, _, h1⟩ := (show ObjOk X.prog X.w H s.heap a (.frz ob (.lst xs)) from I.hok a _ ea)
    exact PySem.W.kia_one PySem.W.kitx_list I.kIn ⟨_, h1, rfl⟩ e (fun z => nomatch z) h
  | @tup a xs ea =>
    cases (show u = Value.ref a from rx)
    obtain ⟨_, _, _, p⟩ := (show ObjOk X.prog X.w H s.heap a (.tup xs) from I.hok a _ ea)
    obtain ⟨o, h1, h2, -⟩ := p
    exact PySem.W.kia_one PySem.W.kitx_tuple I.kIn ⟨o, h1, h2⟩ e (fun z => nomatch z) h
  | @dK a kvs ea =>
    cases (show u = Value.ref a from rx)
    obtain ⟨_, _, vs, _, p⟩ := (show ObjOk X.prog X.w H s.heap a (.dK kvs) from I.hok a _ ea)
    obtain ⟨o, es, ep, h1, h2, -⟩ := p
    exact PySem.W.kia_one PySem.W.kitx_dict I.kIn ⟨o, h1, h2.1⟩ e (fun z => nomatch z) h
  | @dT a kvs ea =>
    cases (show u = Value.ref a from rx)
    obtain ⟨_, _, xs, _, o, es, ep, h1, h2, -⟩ := (show ObjOk X.prog X.w H s.heap a (.dT kvs) from I.hok a _ ea)
    exact PySem.W.kia_one PySem.W.kitx_dict I.kIn ⟨o, h1, h2.1⟩ e (fun z => nomatch z) h
  | @ins a C dx fs ea cl ha hn htk hm =>
    cases (show u = Value.ref a from rx)
    obtain ⟨mA, O, -⟩ := ins_get I.hok ea
    obtain ⟨od, J, -⟩ := O.look
    exact PySem.W.kia_one (PySem.W.kitx_own (cl.get _) cl.hd ha hn htk hm) I.kIn J e (fun z => nomatch z) h
end
end L2
namespace L2
open PySem PySem.Spec PyProof.Rows
structure Room (k : Nat) (A : Around) : Prop where
  hd : A.handled = none
  dp : A.depth + 3 * k + 5 < recursionLimit
  un : A.units + 16 * k + 200 < cLine
  gd : A.guards = some []
theorem Room.mono {j k : Nat} {A : Around} (r : Room k A) (h : j ≤ k) : Room j A := ⟨r.hd, by have := r.dp; (first | lia | omega), by have := r.un; (first | lia | omega), r.gd⟩
theorem Room.deeper {k : Nat} {A : Around} (r : Room (k + 1) A) (env : Env) : Room k (A.deeper env) :=
  ⟨r.hd, by have := r.dp; show A.depth + 1 + 3 * k + 5 < _; (first | lia | omega), by have := r.un; show A.units + 3 + 16 * k + 200 < _; (first | lia | omega), r.gd⟩
theorem Room.in1 {k : Nat} {A : Around} (r : Room (k + 1) A) : Room k A.in1 :=
  ⟨r.hd, by have := r.dp; show A.depth + 3 * k + 5 < _; (first | lia | omega), by have := r.un; show A.units + 1 + 16 * k + 200 < _; (first | lia | omega), r.gd⟩
theorem Room.depth {k : Nat} {A : Around} (r : Room k A) : A.depth < recursionLimit := by have := r.dp; (first | lia | omega)
theorem Room.units {k : Nat} {A : Around} (r : Room k A) : A.units + 64 < cLine := by have := r.un; (first | lia | omega)
theorem Room.units0 {k : Nat} {A : Around} (r : Room k A) : A.units < cLine := by have := r.un; (first | lia | omega)
noncomputable def tNil : TA := fun _ H Q => Q [] H
noncomputable def tCons (ta : TE) (tr : TA) : TA := fun σ H Q => ta σ H fun x H1 => tr σ H1 fun xs H2 => Q (x :: xs) H2
section
variable {X : Cx} {e : Expr} {es : List Expr} {te : TE} {t : TA} {pos : Pos}
theorem pa_nil : PA X [] tNil := fun _ _ _ _ H Q I h => Calls.spliced_nil ⟨[], H, I, .nil, h⟩
theorem pa_cons (ha : PE X e te) (hr : PA X es t) (hs : starEach (e :: es) X.env = (false, eval e X.env) :: starEach es X.env := by rfl) : PA X (e :: es) (tCons te t) := by
  intro pos pins s σ H Q I h
  rw [hs]
  show wpAny _ _ (spliced ((false, eval e X.env) :: backTo pos (starEach es X.env))) _ _ s
  refine Calls.spliced_cons (thnE (ha pins s σ H _ I h) fun u s1 x H1 I1 r1 q1 => ?_)
  exact thnA (hr pos pins s1 σ H1 _ I1 q1) fun us s2 xs H2 I2 r2 q2 => ⟨x :: xs, H2, I2, .cons r1 r2, q2⟩
inductive tTup_r (Q : VK) (xs : List V) (H1 : Hp) : Prop
  | mk : (xs.length ≤ sizeLine) → (∀ p, H1 p = none → Q (.ref p) (upd H1 p (.tup xs))) → tTup_r Q xs H1
noncomputable def tTup (t : TA) : TE := fun σ H Q => t σ H fun xs H1 => tTup_r Q xs H1
inductive tLst_r (Q : VK) (xs : List V) (H1 : Hp) : Prop
  | mk : (xs.length ≤ sizeLine) → (∀ p, H1 p = none → Q (.ref p) (upd H1 p (.lst xs))) → tLst_r Q xs H1
noncomputable def tLst (t : TA) : TE := fun σ H Q => t σ H fun xs H1 => tLst_r Q xs H1
theorem pe_tup {x1} (h : PA X es t) : PE X (.Tuple es x1 pos) (tTup t) := by
  intro pins s σ H Q I hq
  refine wpAny_Tuple_spliced (thnA (h pos pins s σ H _ I hq) fun us s1 xs H1 I1 r ⟨z, q⟩ => ⟨by rw [← r.length]; exact z, ?_⟩)
  have hf : H1 s1.heap.objs.size = none := I1.hok.fresh (Nat.le_refl _)
  refine ⟨.ref s1.heap.objs.size, upd H1 s1.heap.objs.size (.tup xs), I1.laid (t' := s1.toks) (fun b u e => Heap.get?_push_of_some _ e) (Nat.le_refl _) ?_, rfl, q _ hf⟩
  exact ⟨⟨z, _, Heap.get?_push_size _ rfl, rfl⟩, us, r, ⟨_, Heap.get?_push_size _ rfl, rfl, _, rfl⟩⟩
theorem pe_lst (h : PA X es t) : PE X (.List es pos) (tLst t) := by
  intro pins s σ H Q I hq
  refine wpAny_List_spliced (thnA (h pos pins s σ H _ I hq) fun us s1 xs H1 I1 r ⟨z, q⟩ => ⟨by rw [← r.length]; exact z, ?_⟩)
  have hf : H1 s1.heap.objs.size = none := I1.hok.fresh (Nat.le_refl _)
  refine ⟨.ref s1.heap.objs.size, upd H1 s1.heap.objs.size (.lst xs), I1.laid (t' := s1.toks) (fun b u e => Heap.get?_push_of_some _ e) (Nat.le_refl _) ?_, rfl, q _ hf⟩
  exact ⟨z, us, 0, r, Heap.get?_push_size _ rfl⟩
end
noncomputable abbrev Sp := List V → Hp → VK → XK → Prop
noncomputable abbrev CXT := List Env → Hp → Shared → XK → Value → Shared → Prop
structure Env0 (P : Program) (w : World) (K : PySem.W.Frag) (mg : Str → Option Value) (base : Heap) (A : Around) (outer : List Env) (s : Shared) (H : Hp) : Prop where
  frames : A.frames = some outer
  mod : Mod K mg base
  bs : ∀ b o, base.get? b = some o → s.heap.get? b = some o ∧ H b = none
  bsz : base.objs.size ≤ s.heap.objs.size
  funs : s.heap.FunFrames base outer
  frf : ∀ b ∈ frs outer, H b = none
  hok : HOk P w H s.heap
  bare : AllBare s.gens
noncomputable def CE (outer : List Env) (P : Program) (w : World) (H : Hp) (s : Shared) (Q : VK) (u : Value) (s' : Shared) : Prop :=
  ∃ v H', s'.os = s.os ∧ AllBare s'.gens ∧ Un (frs outer) [] H H' s.heap s'.heap ∧ HOk P w H' s'.heap ∧ RelV v u ∧ Q v H'
noncomputable def CR (CX : CXT) (outer : List Env) (P : Program) (w : World) (H : Hp) (s : Shared) (Q : VK) (E : XK) (r : Result) (s' : Shared) : Prop :=
  match r with
  | .ok (.ret u) => CE outer P w H s Q u s'
  | .ok _ => False
  | .error e => CX outer H s E e s'
structure FnOk (P : Program) (w : World) (K : PySem.W.Frag) (mg : Str → Option Value) (base : Heap) (CX : CXT) (k : Nat) (f : Addr) (fd : FuncData) (ps : List Str) (sp : Sp) : Prop where
  len : ∀ vs H Q E, sp vs H Q E → vs.length = ps.length
  run : ∀ (A : Around) (outer : List Env) (s : Shared) (H : Hp) (args : Args) (us : List Value) (vs : List V) (Q : VK) (E : XK), Room k A → Env0 P w K mg base A outer s H → BindsTo s fd args (ps.zip us) → Vals vs us → sp vs H Q E →
    codeAny (model P w) A (.call (.ref f) args) (CR CX outer P w H s Q E) s
theorem FnOk.mono {P : Program} {w : World} {K : PySem.W.Frag} {mg : Str → Option Value} {base : Heap} {CX : CXT} {j k : Nat} {f : Addr} {fd : FuncData} {ps : List Str} {sp : Sp} (F : FnOk P w K mg base CX j f fd ps sp) (h : j ≤ k) :
    FnOk P w K mg base CX k f fd ps sp := ⟨F.len, fun A outer s H args us vs Q E hr => F.run A outer s H args us vs Q E (hr.mono h)⟩
theorem FnOk.imp {P : Program} {w : World} {K : PySem.W.Frag} {mg : Str → Option Value} {base : Heap} {CX : CXT} {k : Nat} {f : Addr} {fd : FuncData} {ps : List Str} {sp sp' : Sp} (F : FnOk P w K mg base CX k f fd ps sp)
    (h : ∀ vs H Q E, sp' vs H Q E → sp vs H Q E) : FnOk P w K mg base CX k f fd ps sp' :=
  ⟨fun vs H Q E q => F.len vs H Q E (h _ _ _ _ q), fun A outer s H args us vs Q E hr he hb hv hs => F.run A outer s H args us vs Q E hr he hb hv (h _ _ _ _ hs)⟩
section
variable {X : Cx} {pins : List (Addr × Obj)} {σ : St} {H : Hp} {s s' : Shared}
theorem Inv.env0 (I : Inv X pins σ H s) : Env0 X.prog X.w X.K X.mg X.base X.A X.stack s H :=
  ⟨I.ok.frames, I.ok.mod, I.bs, Nat.le_trans I.ok.bsz I.sz, I.stack, I.stkFree, I.hok, I.bare⟩
theorem Inv.after {Q : VK} {u : Value} (I : Inv X pins σ H s) (h : CE X.stack X.prog X.w H s Q u s') : EP X pins σ Q u s' := by
  obtain ⟨v, H', os, bare, un, hok, r, q⟩ := h
  obtain ⟨hh, g, d, t, os'⟩ := s'
  obtain rfl : os' = s.os := os
  exact ⟨v, H', I.call (h' := hh) (g' := g) (d' := d) (t' := t) (ch := []) un hok bare (fun b z => absurd z (by simp)), r, q⟩
end
noncomputable def tCall (sp : Sp) (dvs : List V) (E : XK) (t : TA) : TE := fun σ H Q => t σ H fun vs H1 => sp (vs ++ dvs) H1 Q E
noncomputable def Binds (K : PySem.W.Frag) (fd : FuncData) (ps : List Str) (ds : List Value) : Prop :=
  ∀ (s : Shared) (us : List Value), K.In s.heap → (us ++ ds).length = ps.length → BindsTo s fd ⟨us, []⟩ (ps.zip (us ++ ds))
theorem Binds.all {K : PySem.W.Frag} {fd : FuncData} {ps : List Str} (h : ∀ us : List Value, us.length = ps.length → bindArgs fd ⟨us, []⟩ = pure (ps.zip us)) : Binds K fd ps [] := fun s us _ hl => by
  rw [List.append_nil] at hl ⊢
  exact .of_eq (h us hl)
noncomputable def Passes (CX : CXT) (X : Cx) (E : XK) : Prop := ∀ (pins : List (Addr × Obj)) (σ : St) (H : Hp) (s : Shared) (e : Value) (s' : Shared), Inv X pins σ H s → CX X.stack H s E e s' → X.xe e s'
section
variable {X : Cx} {CX : CXT} {k : Nat} {f C : Addr} {fd : FuncData} {ps : List Str} {sp : Sp} {dvs : List V} {ds : List Value} {E : XK} {x m : Str} {p pos apos : Pos} {e o : Expr} {es : List Expr} {ta : TE} {t : TA}
theorem run_fn {pins : List (Addr × Obj)} {σ : St} {H : Hp} {s : Shared} {Q : VK} {us : List Value} {vs : List V} (F : FnOk X.prog X.w X.K X.mg X.base CX k f fd ps sp) (hr : Room k X.A) (hb : Binds X.K fd ps ds) (hd : Vals dvs ds) (hx : Passes CX X E)
    (I : Inv X pins σ H s) (r : Vals vs us) (h : sp (vs ++ dvs) H Q E) : wpAny (model X.prog X.w) X.A (call (.ref f) us) (EP X pins σ Q) X.xe s := by
  have r2 : Vals (vs ++ dvs) (us ++ ds) := r.append hd
  have hl : (us ++ ds).length = ps.length := by rw [← r2.length]; exact F.len _ _ _ _ h
  refine wpAny_call (codeAny_mono (F.run X.A X.stack s H ⟨us, []⟩ (us ++ ds) (vs ++ dvs) Q E hr I.env0 (hb s us I.kIn hl) r2 h) fun r s' hq => ?_)
  cases r with
  | error e => exact hx pins σ H s e s' I hq
  | ok fl =>
    cases fl with
    | ret u => exact I.after hq
    | next => exact False.elim hq
    | brk => exact False.elim hq
    | cont => exact False.elim hq
theorem pe_call (F : FnOk X.prog X.w X.K X.mg X.base CX k f fd ps sp) (hr : Room k X.A) (hg : Gl X x) (hm : X.mg x = some (.ref f)) (hk : PySem.W.keepIn X.K (.ref f) = true) (hb : Binds X.K fd ps ds) (hd : Vals dvs ds) (hx : Passes CX X E)
    (ha : PA X (e :: es) t) (hdb : (x == ("__debug__" : Str)) = false := by decide) (he : starEach (e :: es) X.env = (false, eval e X.env) :: starEach es X.env := by rfl) (hpl : (backTo pos (starEach es X.env)).any (·.1) = false := by rfl) :
    PE X (.Call (.Name x p) (e :: es) [] pos) (tCall sp dvs E t) := by
  intro pins s σ H Q I h
  refine wpAny_Call_Name_kw (ld_glob I hg hm ?_ hdb)
  refine PySem.W.callWith_K (h₀ := X.base) I.ok.mod.kin hk (thnA (ha pos pins s σ H _ I h) fun us s1 vs H1 I1 r q => ⟨I1.kIn, ?_⟩) he hpl
  exact run_fn F hr hb hd hx I1 r q
end
section
variable {X : Cx} {CX : CXT} {k : Nat} {f C : Addr} {fd : FuncData} {ps ks : List Str} {sp : Sp} {E : XK} {x m : Str} {p pos apos kpos : Pos} {e o : Expr} {es : List Expr} {kws : List Keyword} {te ta : TE} {t tk : TA} {nm : Option Str}
variable {g : List Value → List Value → List Value} {gV : List V → List V → List V}
end
structure FnScope (N P : List Str) (sc : Scope) : Prop where
  kind : sc.kind = .function
  co : sc.isCoroutine = false
  gen : sc.isGenerator = false
  nd : N.Nodup
  pre : N.take P.length = P
  par : ∀ x ∈ P, sc.names.lookup x = some .local ∨ sc.names.lookup x = some .cell
  nofree : ∀ y ∈ sc.names, y.2 ≠ .free
theorem bindL_out {kindOf : Str → Option NameKind} {x : Str} : ∀ {binds : List (Str × Value)} {m : Str → Option Value}, (∀ v, (x, v) ∉ binds) → bindL kindOf binds m x = m x
  | [], _, _ => rfl
  | (n, v) :: r, m, h => by
    unfold bindL
    rw [bindL_out fun w hw => h w (List.mem_cons_of_mem _ hw)]
    split
    · have : x ≠ n := by rintro rfl; exact h v List.mem_cons_self
      simp [this]
    · rfl
theorem bindC_out {kindOf : Str → Option NameKind} {x : Str} : ∀ {binds : List (Str × Value)} {m : Str → Option Value}, (∀ v, (x, v) ∉ binds) → bindC kindOf binds m x = m x
  | [], _, _ => rfl
  | (n, v) :: r, m, h => by
    unfold bindC
    rw [bindC_out fun w hw => h w (List.mem_cons_of_mem _ hw)]
    split
    · rfl
    · have : x ≠ n := by rintro rfl; exact h v List.mem_cons_self
      simp [this]
theorem bindL_get {kindOf : Str → Option NameKind} {x : Str} {v : Value} : ∀ {P : List Str} {vs : List Value} {i : Nat} {m : Str → Option Value}, P.Nodup → P[i]? = some x → vs[i]? = some v → kindOf x = some .local →
    bindL kindOf (P.zip vs) m x = some v
  | [], _, _, _, _, h, _, _ => by simp at h
  | _ :: _, [], _, _, _, _, h, _ => by simp at h
  | p :: P, w :: vs, 0, m, nd, h1, h2, hk => by
    simp at h1 h2; subst h1; subst h2
    show bindL kindOf ((p, w) :: P.zip vs) m p = _
    unfold bindL
    rw [bindL_out fun v hv => (List.nodup_cons.mp nd).1 (List.of_mem_zip hv).1, if_pos hk]
    simp
  | p :: P, w :: vs, i + 1, m, nd, h1, h2, hk => by
    show bindL kindOf ((p, w) :: P.zip vs) m x = _
    unfold bindL
    exact bindL_get (i := i) (List.nodup_cons.mp nd).2 (by simpa using h1) (by simpa using h2) hk
theorem bindC_get {kindOf : Str → Option NameKind} {x : Str} {v : Value} : ∀ {P : List Str} {vs : List Value} {i : Nat} {m : Str → Option Value}, P.Nodup → P[i]? = some x → vs[i]? = some v → kindOf x ≠ some .local →
    bindC kindOf (P.zip vs) m x = some v
  | [], _, _, _, _, h, _, _ => by simp at h
  | _ :: _, [], _, _, _, _, h, _ => by simp at h
  | p :: P, w :: vs, 0, m, nd, h1, h2, hk => by
    simp at h1 h2; subst h1; subst h2
    show bindC kindOf ((p, w) :: P.zip vs) m p = _
    unfold bindC
    rw [bindC_out fun v hv => (List.nodup_cons.mp nd).1 (List.of_mem_zip hv).1, if_neg hk]
    simp
  | p :: P, w :: vs, i + 1, m, nd, h1, h2, hk => by
    show bindC kindOf ((p, w) :: P.zip vs) m x = _
    unfold bindC
    exact bindC_get (i := i) (List.nodup_cons.mp nd).2 (by simpa using h1) (by simpa using h2) hk
noncomputable def start (N : List Str) (vs : List V) : St := vs.map some ++ List.replicate (N.length - vs.length) none
noncomputable def cxOf (CX : CXT) (P : Program) (w : World) (K : PySem.W.Frag) (mg : Str → Option Value) (base : Heap) (N : List Str) (qual : Str) (scope : Scope) (f : Addr) (cd : Value) (A : Around) (outer : List Env) (s : Shared) (H : Hp) (E : XK) : Cx where
  prog := P
  w := w
  K := K
  mg := mg
  base := base
  A := A.deeper (envOfC qual scope s.heap.objs.size f cd)
  N := N
  s₀ := s
  H₀ := H
  env := envOfC qual scope s.heap.objs.size f cd
  outer := outer
  stack := envOfC qual scope s.heap.objs.size f cd :: outer
  ex := []
  calm := true
  fn := fun _ => true
  pn := []
  xe := fun e s' => wpAny (model P w) (A.deeper (envOfC qual scope s.heap.objs.size f cd)) (leaving (envOfC qual scope s.heap.objs.size f cd) e) (fun _ s'' => CX outer H s E e s'') (fun e' s'' => CX outer H s E e' s'') s'
theorem cell_has {sc : Scope} {n : Nat} {x : Str} (h : sc.names.lookup x = some .cell) : ∃ c, (cellsFrom n sc.names []).lookup x = some c := by
  have q := PySem.W.cellsFrom_some sc.names n [] (.inl h)
  exact Option.isSome_iff_exists.mp q
theorem inv_start {CX : CXT} {P : Program} {w : World} {K : PySem.W.Frag} {mg : Str → Option Value} {base : Heap} {N ps : List Str} {qual : Str} {scope : Scope} {f : Addr} {cd : Value} {A : Around} {outer : List Env} {s s1 : Shared} {H : Hp} {E : XK} {us : List Value} {vs : List V}
    (S : FnScope N ps scope) (hd : A.handled = none) (e0 : Env0 P w K mg base A outer s H) (hl : vs.length = ps.length) (r : Vals vs us)
    (x : InCallC s s.heap.objs.size (bindL (envOfC qual scope s.heap.objs.size f cd).kindOf (ps.zip us) fun _ => none) (cellsFrom (s.heap.objs.size + 1) scope.names []) (bindC (envOfC qual scope s.heap.objs.size f cd).kindOf (ps.zip us) fun _ => none) s1) :
    Inv (cxOf CX P w K mg base N qual scope f cd A outer s H E) [] (start N vs) H s1 := by
  have hpl : ps.length ≤ N.length := by have := congrArg List.length S.pre; rw [List.length_take] at this; (first | lia | omega)
  obtain ⟨h1, tk, rfl, hk⟩ := x.done
  have noA : ∀ b : Addr, b ∉ (cxOf CX P w K mg base N qual scope f cd A outer s H E).ex := fun b z => absurd (show b ∈ ([] : List Addr) from z) (by simp)
  refine ⟨⟨e0.mod, S.kind, rfl, rfl, Nat.le_refl _, fun y z c h1 h2 => ?_, fun y hy => ?_, fun y c _ h => ?_, fun _ => hd, Around.frames_deeper e0.frames, .inr ⟨rfl, rfl⟩, fun b z => absurd z (noA b), e0.bs, e0.bsz, fun b _ _ => noA b, fun b z => absurd z (noA b), e0.funs, e0.frf⟩,
    rfl, e0.bare, Un.kept hk, ⟨_, x.toInCall.ns, fun i y v h1 h2 h3 => ?_⟩, fun y c h => ⟨_, x.cell y c h⟩, e0.hok.fresh (Nat.le_refl _), fun y c h => ?_, fun p hp => absurd (show p ∈ ([] : List (Addr × Obj)) from hp) (by simp), e0.hok.kept hk, ?_⟩
  · exact name_of_addr x.apart (PySem.mem_of_lookup h1) (PySem.mem_of_lookup h2)
  · have hy : scope.names.lookup y = some .cell ∨ scope.names.lookup y = some .free := hy
    rcases hy with hy | hy
    · exact cell_has hy
    · exact absurd rfl (S.nofree _ (PySem.mem_of_lookup hy))
  · exact Nat.le_of_lt (x.above y c (PySem.mem_of_lookup h))
  · have hi : i < vs.length := by
      unfold start at h2
      by_cases hi : i < vs.length
      · exact hi
      · rw [List.getElem?_append_right (by simpa using hi)] at h2
        rw [List.getElem?_replicate] at h2
        split at h2 <;> cases h2
    have ha : vs[i]? = some v := by
      unfold start at h2
      rw [List.getElem?_append_left (by simpa using hi), List.getElem?_map] at h2
      cases e : vs[i]? with
      | none => rw [e] at h2; cases h2
      | some a => rw [e] at h2; cases h2; rfl
    obtain ⟨u, hu, rv⟩ := r.get ha
    have hp : ps[i]? = some y := by
      rw [← S.pre, List.getElem?_take_of_lt om]; exact h1
    have ndP : ps.Nodup := by rw [← S.pre]; exact S.nd.sublist (List.take_sublist _ _)
    refine ⟨u, rv, ?_⟩
    rcases S.par y (List.mem_of_getElem? hp) with k | k
    · exact .inl ⟨k, bindL_get ndP hp hu k⟩
    · obtain ⟨c, e⟩ := cell_has (n := s.heap.objs.size + 1) k
      refine .inr ⟨.inl k, c, e, ?_⟩
      have q := x.cell y c e
      rw [bindC_get ndP hp hu (by show scope.names.lookup y ≠ _; rw [k]; decide)] at q
      exact q
  · exact e0.hok.fresh (Nat.le_of_lt (x.above y c (PySem.mem_of_lookup h)))
  · unfold start
    show _ = N.length
    rw [List.length_append, List.length_map, List.length_replicate]
    (first | lia | omega)
theorem fn_of {CX : CXT} {P : Program} {w : World} {K : PySem.W.Frag} {mg : Str → Option Value} {base : Heap} {k : Nat} {f : Addr} {name qual : Str} {params : Arguments} {body : List Stmt} {scope : Scope} {dV kV doc pm cdv ct oc : Value} {an od : Option Addr}
    {osl : Array (Option Value)} {N ps : List Str} {sp : Sp} (lk : K.lookup f = some ⟨oc, od, .func (PySem.W.fnOf name qual params body scope dV kV doc pm an cdv ct), osl⟩) (hcd : PySem.W.codeIn K cdv qual = true) (S : FnScope N ps scope)
    (len : ∀ vs H Q E, sp vs H Q E → vs.length = ps.length)
    (hbody : ∀ (A : Around) (outer : List Env) (s : Shared) (H : Hp) (vs : List V) (Q : VK) (E : XK), Room k (A.deeper (envOfC qual scope s.heap.objs.size f cdv)) → sp vs H Q E →
      ∃ t, PSs (cxOf CX P w K mg base N qual scope f cdv A outer s H E) body t ∧ t { nx := fun _ H' => Q .non H', rt := Q } (start N vs) H) :
    FnOk P w K mg base CX (k + 1) f (PySem.W.fnOf name qual params body scope dV kV doc pm an cdv ct) ps sp := by
  refine ⟨len, fun A outer s H args us vs Q E hr e0 hb r hsp => ?_⟩
  have hl := len _ _ _ _ hsp
  have KX : K.In s.heap := e0.mod.kin.keeps fun b o e => (e0.bs b o e).1
  have lim : s.heap.NoLimit := e0.mod.nolimit.keeps fun b o e => (e0.bs b o e).1
  have hkind : ∀ y ∈ ps.zip us, scope.names.lookup y.1 = some .local ∨ (scope.names.lookup y.1 = some .cell ∧ ((cellsFrom (s.heap.objs.size + 1) scope.names []).lookup y.1).isSome = true) := fun ⟨n, v⟩ hy => by
    rcases S.par n (List.of_mem_zip hy).1 with q | q
    · exact .inl q
    · exact .inr ⟨q, PySem.W.cellsFrom_some _ _ _ (.inl q)⟩
  refine codeAny_call_function hr.depth (KX _ _ lk) rfl S.co S.gen rfl (PySem.W.codeRec_of KX hcd) (hb _ _ _ _ ?_)
  refine wpAny_newFunctionEnv_cells S.kind hkind fun env he s1 x => ?_
  subst he
  refine ⟨lim.keeps x.toInCall.keep, codeAny_func ?_⟩
  obtain ⟨t, ht, hq⟩ := hbody A outer s H vs Q E (hr.deeper _) hsp
  have I : Inv (cxOf CX P w K mg base N qual scope f cdv A outer s H E) [] (start N vs) H s1 := inv_start S hr.hd e0 hl r x
  refine wpAny_mono (ht [] s1 (start N vs) H _ I hq) (fun fl s' hs => ?_) fun e s' hs => hs
  have fin : ∀ {σ' : St} {H' : Hp} {v : V} {u : Value}, Inv (cxOf CX P w K mg base N qual scope f cdv A outer s H E) [] σ' H' s' → RelV v u → Q v H' → CE outer P w H s Q u s' :=
    fun {σ' H' v u} J rv q => ⟨v, H', J.os, J.bare, J.base, J.hok, rv, q⟩
  cases fl with
  | ret u =>
    obtain ⟨v, σ', H', J, rv, q⟩ := hs
    exact fin J rv q
  | next =>
    obtain ⟨σ', H', J, q⟩ := hs
    exact fin (v := V.non) (u := Value.none) J rfl q
  | brk =>
    obtain ⟨_, _, _, q⟩ := hs
    exact False.elim q
  | cont =>
    obtain ⟨_, _, _, q⟩ := hs
    exact False.elim q
end L2
namespace L2
open PySem PySem.Spec PyProof.Rows
section
variable {X : Cx} {x : Str} {p pos : Pos} {e : Expr} {es : List Expr} {t : TA} {id T : String} {r : List V → Hp → VK → Prop}
noncomputable def tCB (r : List V → Hp → VK → Prop) (t : TA) : TE := fun σ H Q => t σ H fun vs H1 => r vs H1 Q
theorem pe_callB (hc : CallR X (.builtin id) r) (hg : Gl X x) (hm : X.mg x = none) (hv : bootBuiltins x = some (.builtin id)) (ha : PA X (e :: es) t) (hn : x ≠ "__name__" := by decide) (hdb : (x == ("__debug__" : Str)) = false := by decide)
    (he : starEach (e :: es) X.env = (false, eval e X.env) :: starEach es X.env := by rfl) (hpl : (backTo pos (starEach es X.env)).any (·.1) = false := by rfl) : PE X (.Call (.Name x p) (e :: es) [] pos) (tCB r t) := by
  intro pins s σ H Q I h
  refine wpAny_Call_Name_kw (ld_blt I hg hm hv ?_ hn hdb)
  exact PyProof.Rows.callWith_builtin1 (thnA (ha pos pins s σ H _ I h) fun us s1 vs H1 I1 r1 q1 => hc pins s1 σ H1 vs us Q I1 r1 q1) he hpl
theorem pe_callTy (hc : CallR X (.type T) r) (hg : Gl X x) (hm : X.mg x = none) (hv : bootBuiltins x = some (.type T)) (ha : PA X (e :: es) t) (hn : x ≠ "__name__" := by decide) (hdb : (x == ("__debug__" : Str)) = false := by decide)
    (he : starEach (e :: es) X.env = (false, eval e X.env) :: starEach es X.env := by rfl) (hpl : (backTo pos (starEach es X.env)).any (·.1) = false := by rfl) : PE X (.Call (.Name x p) (e :: es) [] pos) (tCB r t) := by
  intro pins s σ H Q I h
  refine wpAny_Call_Name_kw (ld_blt I hg hm hv ?_ hn hdb)
  exact PyProof.Rows.callWith_type1 (thnA (ha pos pins s σ H _ I h) fun us s1 vs H1 I1 r1 q1 => hc pins s1 σ H1 vs us Q I1 r1 q1) he hpl
end
end L2
namespace L2
open PySem PySem.Spec PyProof.Rows
section
variable {κ : Type} [DecidableEq κ]
noncomputable def valV (kvs : List (κ × V)) (k : κ) : Option V := (kvs.find? fun kv => decide (kv.1 = k)).map (·.2)
noncomputable def putK (kvs : List (κ × V)) (k : κ) (v : V) : List (κ × V) :=
  if (kvs.any fun kv => decide (kv.1 = k)) = true then kvs.map (fun kv => if kv.1 = k then (kv.1, v) else kv) else kvs ++ [(k, v)]
noncomputable def dropK (kvs : List (κ × V)) (k : κ) : List (κ × V) := kvs.filter fun kv => decide (kv.1 ≠ k)
theorem valV_nil {k : κ} : valV ([] : List (κ × V)) k = none := rfl
theorem valV_pos {p : κ × V} {r : List (κ × V)} {k : κ} (e : p.1 = k) : valV (p :: r) k = some p.2 := by simp [valV, List.find?_cons, e]
theorem valV_neg {p : κ × V} {r : List (κ × V)} {k : κ} (e : ¬ p.1 = k) : valV (p :: r) k = valV r k := by simp [valV, List.find?_cons, e]
theorem valV_any (k : κ) : ∀ kvs : List (κ × V), (kvs.any fun kv => decide (kv.1 = k)) = (valV kvs k).isSome
  | [] => rfl
  | p :: r => by
    rw [List.any_cons]
    by_cases e : p.1 = k
    · simp only [valV_pos e, decide_eq_true e, Bool.true_or, Option.isSome_some]
    · rw [valV_neg e, decide_eq_false e, Bool.false_or]; exact valV_any k r
theorem valV_map (k j : κ) (y : V) : ∀ kvs : List (κ × V), valV (kvs.map fun kv => if kv.1 = k then (kv.1, y) else kv) j = (valV kvs j).map fun x => if j = k then y else x
  | [] => rfl
  | p :: r => by
    have ih := valV_map k j y r
    rw [List.map_cons]
    by_cases h : p.1 = k
    · rw [if_pos h]
      by_cases e : p.1 = j
      · rw [valV_pos (p := (p.1, y)) e, valV_pos e, Option.map_some, if_pos (e.symm.trans h)]
      · rw [valV_neg (p := (p.1, y)) e, valV_neg e, ih]
    · rw [if_neg h]
      by_cases e : p.1 = j
      · rw [valV_pos (p := p) e, valV_pos e, Option.map_some, if_neg (fun z => h (e.trans z))]
      · rw [valV_neg (p := p) e, valV_neg e, ih]
theorem valV_snoc (k j : κ) (y : V) : ∀ kvs : List (κ × V), valV kvs k = none → valV (kvs ++ [(k, y)]) j = if j = k then some y else valV kvs j
  | [], _ => by
    by_cases e : k = j
    · rw [if_pos e.symm]; exact valV_pos (p := (k, y)) e
    · rw [if_neg (fun z => e z.symm)]; exact valV_neg (p := (k, y)) e
  | p :: r, hn => by
    rw [List.cons_append]
    have hk : ¬ p.1 = k := fun z => by rw [valV_pos z] at hn; cases hn
    rw [valV_neg hk] at hn
    have ih := valV_snoc k j y r hn
    by_cases e : p.1 = j
    · rw [valV_pos e, valV_pos e, if_neg (fun z => hk (e.trans z))]
    · rw [valV_neg e, valV_neg e, ih]
theorem valV_put (kvs : List (κ × V)) (k j : κ) (y : V) : valV (putK kvs k y) j = if j = k then some y else valV kvs j := by
  unfold putK
  by_cases a : (kvs.any fun kv => decide (kv.1 = k)) = true
  · rw [if_pos a, valV_map]
    rw [valV_any] at a
    by_cases e : j = k
    · obtain ⟨x, hx⟩ := Option.isSome_iff_exists.mp a
      rw [if_pos e, e, hx, Option.map_some, if_pos rfl]
    · rw [if_neg e]
      cases valV kvs j with
      | none => rfl
      | some x => rw [Option.map_some, if_neg e]
  · rw [if_neg a]
    refine valV_snoc k j y kvs ?_
    rw [valV_any] at a
    cases q : valV kvs k with
    | none => rfl
    | some x => rw [q] at a; exact (a rfl).elim
theorem length_putK (kvs : List (κ × V)) (k : κ) (v : V) : (putK kvs k v).length ≤ kvs.length + 1 := by
  unfold putK
  split
  · rw [List.length_map]; (first | lia | omega)
  · rw [List.length_append, List.length_cons, List.length_nil]; (first | lia | omega)
theorem putK_new {kvs : List (κ × V)} {k : κ} (v : V) (h : valV kvs k = none) : putK kvs k v = kvs ++ [(k, v)] := by
  unfold putK
  rw [valV_any, h]
  exact if_neg (by decide)
theorem RelO.isSome_eq {o : Option V} {u : Option Value} (r : RelO o u) : o.isSome = u.isSome := by
  cases o with
  | none => cases u with
    | none => rfl
    | some _ => exact (show False from r).elim
  | some _ => cases u with
    | none => exact (show False from r).elim
    | some _ => rfl
theorem RelO.getD {o : Option V} {u : Option Value} {d : V} {d' : Value} (r : RelO o u) (rd : RelV d d') : RelV (o.getD d) (u.getD d') := by
  cases o with
  | none => cases u with
    | none => exact rd
    | some _ => exact (show False from r).elim
  | some _ => cases u with
    | none => exact (show False from r).elim
    | some _ => exact r
theorem KV.val {kvs : List (κ × V)} {vs : List (κ × Value)} (r : KV kvs vs) (k : κ) : RelO (valV kvs k) (valueAt vs k) := by
  unfold KV at r
  induction r with
  | nil => exact True.intro
  | @cons p q ps qs h t ih =>
    obtain ⟨h1, h2⟩ := h
    by_cases e : p.1 = k
    · have e' : q.1 = k := h1.symm.trans e
      have b : valueAt (q :: qs) k = some q.2 := by simp [valueAt, List.find?_cons, e']
      rw [valV_pos e, b]; exact h2
    · have e' : ¬ q.1 = k := fun z => e (h1.trans z)
      have b : valueAt (q :: qs) k = valueAt qs k := by simp [valueAt, List.find?_cons, e']
      rw [valV_neg e, b]; exact ih
theorem KV.any {kvs : List (κ × V)} {vs : List (κ × Value)} (r : KV kvs vs) (k : κ) : (kvs.any fun kv => decide (kv.1 = k)) = vs.any fun kv => decide (kv.1 = k) := by
  unfold KV at r
  induction r with
  | nil => rfl
  | cons h t ih => rw [List.any_cons, List.any_cons, ih, h.1]
theorem KV.repl {kvs : List (κ × V)} {vs : List (κ × Value)} (r : KV kvs vs) (k : κ) {y : V} {u : Value} (ry : RelV y u) :
    KV (kvs.map fun kv => if kv.1 = k then (kv.1, y) else kv) (vs.map fun kv => if kv.1 = k then (kv.1, u) else kv) := by
  unfold KV at r ⊢
  induction r with
  | nil => exact .nil
  | @cons p q ps qs h t ih =>
    rw [List.map_cons, List.map_cons]
    refine .cons ?_ ih
    obtain ⟨h1, h2⟩ := h
    by_cases e : p.1 = k
    · rw [if_pos e, if_pos (h1.symm.trans e)]; exact ⟨h1, ry⟩
    · rw [if_neg e, if_neg (fun z => e (h1.trans z))]; exact ⟨h1, h2⟩
theorem KV.put {kvs : List (κ × V)} {vs : List (κ × Value)} (r : KV kvs vs) (k : κ) {y : V} {u : Value} (ry : RelV y u) : KV (putK kvs k y) (stored vs k u) := by
  unfold putK stored
  rw [r.any k]
  by_cases e : (vs.any fun kv => decide (kv.1 = k)) = true
  · rw [if_pos e, if_pos e]; exact r.repl k ry
  · rw [if_neg e, if_neg e]; exact Paired.snoc r ⟨rfl, ry⟩
theorem KV.drop {kvs : List (κ × V)} {vs : List (κ × Value)} (r : KV kvs vs) (k : κ) : KV (dropK kvs k) (without vs k) := by
  unfold KV at r ⊢
  unfold dropK without
  induction r with
  | nil => exact .nil
  | @cons p q ps qs h t ih =>
    obtain ⟨h1, h2⟩ := h
    rw [List.filter_cons, List.filter_cons]
    by_cases e : p.1 = k
    · have a : ¬ decide (p.1 ≠ k) = true := by simp [e]
      have b : ¬ decide (q.1 ≠ k) = true := by simp [h1.symm.trans e]
      rw [if_neg a, if_neg b]; exact ih
    · have e' : ¬ q.1 = k := fun z => e (h1.trans z)
      have a : decide (p.1 ≠ k) = true := by simp [e]
      have b : decide (q.1 ≠ k) = true := by simp [e']
      rw [if_pos a, if_pos b]; exact .cons ⟨h1, h2⟩ ih
theorem KV.length {kvs : List (κ × V)} {vs : List (κ × Value)} (r : KV kvs vs) : kvs.length = vs.length := Paired.length r
theorem dropK_le (kvs : List (κ × V)) (k : κ) : (dropK kvs k).length ≤ kvs.length := List.length_filter_le _ _
end
theorem kV_is {P : Program} {w : World} {k : Key} {u : Value} (r : RelV (kV k) u) : (mixKind P w).is k u = true := by
  cases k with
  | inl i => obtain ⟨t, e⟩ := (show ∃ t, u = Value.int i t from r); subst e; exact mixKind_int P w i t
  | inr x => obtain ⟨t, e⟩ := (show ∃ t, u = Value.str x t from r); subst e; exact mixKind_str P w x t
theorem items_are {P : Program} {w : World} : ∀ {ks : List Key} {us : List Value}, Vals (ks.map kV) us → ItemsAre (mixKind P w) ks us
  | [], _, r => by rw [List.map_nil] at r; cases r; exact .nil
  | k :: ks, _, r => by
    rw [List.map_cons] at r
    cases r with
    | cons h t => exact .cons (kV_is h) (items_are t)
noncomputable abbrev KT (H : Hp) : List (List Key × V) → List (List Key × Addr × Value) → Prop := Paired fun p q => p.1 = q.1 ∧ H q.2.1 = some (.tup (p.1.map kV)) ∧ RelV p.2 q.2.2
theorem KT.val {H : Hp} {kvs : List (List Key × V)} {xs : List (List Key × Addr × Value)} (r : KT H kvs xs) (k : List Key) : RelO (valV kvs k) ((atKey xs k).map (·.2)) := by
  induction r with
  | nil => exact True.intro
  | @cons p q ps qs h t ih =>
    obtain ⟨h1, _, h2⟩ := h
    by_cases e : p.1 = k
    · have e' : q.1 = k := h1.symm.trans e
      have b : atKey (q :: qs) k = some q.2 := by simp [atKey, List.find?_cons, e']
      rw [valV_pos e, b]; exact h2
    · have e' : ¬ q.1 = k := fun z => e (h1.trans z)
      have b : atKey (q :: qs) k = atKey qs k := by simp [atKey, List.find?_cons, e']
      rw [valV_neg e, b]; exact ih
theorem KT.repl {H : Hp} {kvs : List (List Key × V)} {xs : List (List Key × Addr × Value)} (r : KT H kvs xs) (k : List Key) {y : V} {u : Value} (ry : RelV y u) :
    KT H (kvs.map fun kv => if kv.1 = k then (kv.1, y) else kv) (xs.map (putAt k u)) := by
  induction r with
  | nil => exact .nil
  | @cons p q ps qs h t ih =>
    rw [List.map_cons, List.map_cons]
    refine .cons ?_ ih
    obtain ⟨h1, h2, h3⟩ := h
    unfold putAt
    by_cases e : p.1 = k
    · rw [if_pos e, if_pos (h1.symm.trans e)]; exact ⟨h1, h2, ry⟩
    · rw [if_neg e, if_neg (fun z => e (h1.trans z))]; exact ⟨h1, h2, h3⟩
theorem KT.put {H : Hp} {kvs : List (List Key × V)} {xs : List (List Key × Addr × Value)} (r : KT H kvs xs) (k : List Key) {b : Addr} {y : V} {u : Value} (hb : H b = some (.tup (k.map kV))) (ry : RelV y u) :
    KT H (putK kvs k y) (storedH xs k b u) := by
  have e : (kvs.any fun kv => decide (kv.1 = k)) = (atKey xs k).isSome := by
    rw [valV_any, (r.val k).isSome_eq, Option.isSome_map]
  unfold putK storedH
  rw [e]
  by_cases q : (atKey xs k).isSome = true
  · rw [if_pos q, if_pos q]; exact r.repl k ry
  · rw [if_neg q, if_neg q]; exact Paired.snoc r ⟨rfl, hb, ry⟩
theorem KT.keeps {H H' : Hp} {kvs : List (List Key × V)} {xs : List (List Key × Addr × Value)} (r : KT H kvs xs) (ht : ∀ b ys, H b = some (.tup ys) → H' b = some (.tup ys)) : KT H' kvs xs :=
  Paired.mapP r fun _ _ z => ⟨z.1, ht _ _ z.2.1, z.2.2⟩
section
variable {P : Program} {w : World} {H : Hp} {h : Heap} {a : Addr}
theorem rd_of {u : HO} (ok : HOk P w H h) (e : Rd H a u) : ObjOk P w H h a u := e.ok ok
theorem dk_rd {kvs : List (Key × V)} (ok : HOk P w H h) (e : Rd H a (.dK kvs)) : kvs.length ≤ sizeLine ∧ (a == sysModules) = false ∧ ∃ vs, KV kvs vs ∧ h.DictOf (mixKind P w) a vs :=
  show ObjOk P w H h a (.dK kvs) from rd_of ok e
theorem dk_of {kvs : List (Key × V)} (ok : HOk P w H h) (e : H a = some (.dK kvs)) : kvs.length ≤ sizeLine ∧ (a == sysModules) = false ∧ ∃ vs, KV kvs vs ∧ h.DictOf (mixKind P w) a vs := dk_rd ok (.inl e)
theorem key_of {ks : List Key} (ok : HOk P w H h) (e : H a = some (.tup (ks.map kV))) : (tupleKind (mixKind P w)).is h ks a := by
  obtain ⟨_, its, r, o, h1, h2, n, h3⟩ := (show ObjOk P w H h a (.tup (ks.map kV)) from ok a _ e)
  exact ⟨o, its.toArray, n, h1, h2, h3, by simpa using items_are r⟩
theorem dt_rd {kvs : List (List Key × V)} (ok : HOk P w H h) (e : Rd H a (.dT kvs)) : kvs.length ≤ sizeLine ∧ (a == sysModules) = false ∧
    ∃ xs, KT H kvs xs ∧ h.DictOfH (tupleKind (mixKind P w)) a xs := by
  obtain ⟨z, y, xs, r, o, es, ep, h1, h2, h3, h4, h5⟩ := (show ObjOk P w H h a (.dT kvs) from rd_of ok e)
  refine ⟨z, y, xs, r, o, es, ep, h1, h2, h3, h4, fun x hx => ?_, h5⟩
  have all : ∀ {l : List (List Key × V)} {m : List (List Key × Addr × Value)}, KT H l m → ∀ x ∈ m, (tupleKind (mixKind P w)).is h x.1 x.2.1 := by
    intro l m q
    induction q with
    | nil => intro x hx; exact nomatch hx
    | @cons p q ps qs hq t ih =>
      intro x hx
      rcases List.mem_cons.mp hx with e | hx
      · subst e
        exact key_of ok (by rw [← hq.1]; exact hq.2.1)
      · exact ih x hx
  exact all r x hx
theorem dt_of {kvs : List (List Key × V)} (ok : HOk P w H h) (e : H a = some (.dT kvs)) : kvs.length ≤ sizeLine ∧ (a == sysModules) = false ∧
    ∃ xs, KT H kvs xs ∧ h.DictOfH (tupleKind (mixKind P w)) a xs := dt_rd ok (.inl e)
end
noncomputable def DGet (H : Hp) (a : Addr) (y : V) (r : Option V) : Prop :=
  (∃ kvs k, Rd H a (.dK kvs) ∧ y = kV k ∧ r = valV kvs k) ∨ ∃ kvs k b, Rd H a (.dT kvs) ∧ y = .ref b ∧ H b = some (.tup (k.map kV)) ∧ r = valV kvs k
noncomputable def DPut (H : Hp) (a : Addr) (y v : V) (H' : Hp) : Prop :=
  (∃ kvs k, H a = some (.dK kvs) ∧ y = kV k ∧ kvs.length < sizeLine ∧ H' = upd H a (.dK (putK kvs k v))) ∨
  ∃ kvs k b, H a = some (.dT kvs) ∧ y = .ref b ∧ H b = some (.tup (k.map kV)) ∧ kvs.length < sizeLine ∧ H' = upd H a (.dT (putK kvs k v))
theorem DGet.k {H : Hp} {a : Addr} {kvs : List (Key × V)} {k : Key} (e : H a = some (.dK kvs)) : DGet H a (kV k) (valV kvs k) := .inl ⟨kvs, k, .inl e, rfl, rfl⟩
theorem DGet.t {H : Hp} {a b : Addr} {kvs : List (List Key × V)} {k : List Key} (e : H a = some (.dT kvs)) (eb : H b = some (.tup (k.map kV))) : DGet H a (.ref b) (valV kvs k) := .inr ⟨kvs, k, b, .inl e, rfl, eb, rfl⟩
theorem DPut.k {H : Hp} {a : Addr} {kvs : List (Key × V)} {k : Key} {v : V} (e : H a = some (.dK kvs)) (hl : kvs.length < sizeLine) : DPut H a (kV k) v (upd H a (.dK (putK kvs k v))) := .inl ⟨kvs, k, e, rfl, hl, rfl⟩
theorem DPut.t {H : Hp} {a b : Addr} {kvs : List (List Key × V)} {k : List Key} {v : V} (e : H a = some (.dT kvs)) (eb : H b = some (.tup (k.map kV))) (hl : kvs.length < sizeLine) :
    DPut H a (.ref b) v (upd H a (.dT (putK kvs k v))) := .inr ⟨kvs, k, b, e, rfl, eb, hl, rfl⟩
section
variable {X : Cx} {pins : List (Addr × Obj)} {σ : St} {H : Hp} {s : Shared} {a : Addr} {y v : V} {u r : Value} {o : Option V} {A : Around} {E : Value → Shared → Prop}
theorem Inv.big (I : Inv X pins σ H s) : sysModules < s.heap.objs.size := by
  have h : mainGlobals < s.heap.objs.size := (I.mod.glob.keeps I.bk).lt
  exact Nat.lt_trans (by decide) h
theorem d_getItem {Q : Value → Shared → Prop} (hu : A.units + 1 < cLine) (I : Inv X pins σ H s) (g : DGet H a y (some v)) (ry : RelV y u) (h : ∀ w' s', Inv X pins σ H s' → RelV v w' → Q w' s') :
    wpAny (model X.prog X.w) A (getItem (.ref a) u) Q E s := by
  rcases g with ⟨kvs, k, e, ey, l⟩ | ⟨kvs, k, b, e, ey, eb, l⟩
  · subst ey
    obtain ⟨z, hd, vs, rel, dd⟩ := dk_rd I.hok e
    obtain ⟨w', hw, rw'⟩ := RelO.some_of (v := v) (o := valueAt vs k) (by rw [l]; exact rel.val k)
    exact wpAny_getItem_of (kV_is ry) dd.mapOf hw (h w' _ (I.tok _) rw')
  · subst ey
    cases (show u = Value.ref b from ry)
    obtain ⟨z, hd, xs, rel, dd⟩ := dt_rd I.hok e
    obtain ⟨w', hw, rw'⟩ := RelO.some_of (v := v) (o := (atKey xs k).map (·.2)) (by rw [l]; exact rel.val k)
    obtain ⟨p, hp, hp2⟩ := Option.map_eq_some_iff.mp hw
    refine wpAny_getItem_heap (tupleKind_room_in1 hu) (key_of I.hok eb) dd hp ?_
    rw [hp2]
    exact h w' _ (I.tok _) rw'
theorem d_in {Q : Value → Shared → Prop} (hu : A.units + 1 < cLine) (I : Inv X pins σ H s) (g : DGet H a y o) (ry : RelV y u) (h : ∀ s', Inv X pins σ H s' → Q (.bool o.isSome) s') :
    wpAny (model X.prog X.w) A (compareOp .In u (.ref a)) Q E s := by
  rcases g with ⟨kvs, k, e, ey, l⟩ | ⟨kvs, k, b, e, ey, eb, l⟩
  · subst ey
    obtain ⟨z, hd, vs, rel, dd⟩ := dk_rd I.hok e
    refine wpAny_in_of (kV_is ry) hd dd.mapOf ?_
    rw [← (rel.val k).isSome_eq, ← l]
    exact h _ (I.tok _)
  · subst ey
    cases (show u = Value.ref b from ry)
    obtain ⟨z, hd, xs, rel, dd⟩ := dt_rd I.hok e
    refine wpAny_in_heap (tupleKind_room_in1 hu) (key_of I.hok eb) hd dd ?_
    have q := (rel.val k).isSome_eq
    rw [Option.isSome_map] at q
    rw [← q, ← l]
    exact h _ (I.tok _)
theorem d_write {h' : Heap} {t' : Nat} {ob : HO} (I : Inv X pins σ H s) (mu : Mut (H a)) (hs : Heap.SameBut a s.heap h') (he : ∃ q, h'.get? a = some q) (new : ObjOk X.prog X.w (upd H a ob) h' a ob) :
    Inv X pins σ (upd H a ob) { s with heap := h', toks := t' } :=
  I.write (x := a) (e := a) mu (.inl rfl) (fun b q hb z => (hs.2 b hb).trans z) he new
theorem dk_new {P : Program} {w : World} {H' : Hp} {h' : Heap} {kvs : List (Key × V)} {vs : List (Key × Value)} (z : kvs.length ≤ sizeLine) (hd : (a == sysModules) = false) (rel : KV kvs vs) (dd : h'.DictOf (mixKind P w) a vs) :
    ObjOk P w H' h' a (.dK kvs) := ⟨z, hd, vs, rel, dd⟩
theorem d_setItem {H' : Hp} {Q : Unit → Shared → Prop} (hu : A.units + 1 < cLine) (I : Inv X pins σ H s) (g : DPut H a y v H') (ry : RelV y u) (rv : RelV v r) (h : ∀ s', Inv X pins σ H' s' → Q () s') :
    wpAny (model X.prog X.w) A (setItem (.ref a) u r) Q E s := by
  rcases g with ⟨kvs, k, e, ey, l, eH⟩ | ⟨kvs, k, b, e, ey, eb, l, eH⟩
  · subst ey eH
    obtain ⟨z, hd, vs, rel, dd⟩ := dk_of I.hok e
    have hz : vs.length ≤ sizeLine := by rw [← rel.length]; exact z
    have hl : (putK kvs k v).length ≤ sizeLine := by have := length_putK kvs k v; (first | lia | omega)
    refine wpAny_setItem_pairs (hsz := hz) (kV_is ry) dd fun h' dd' hs => h _ ?_
    have he : ∃ q, h'.get? a = some q := let ⟨q, _, _, hq, _⟩ := dd'; ⟨q, hq⟩
    exact d_write I (by rw [e]; exact True.intro) hs he (dk_new hl hd (rel.put k rv) dd')
  · subst ey eH
    cases (show u = Value.ref b from ry)
    obtain ⟨z, hd, xs, rel, dd⟩ := dt_of I.hok e
    have hz : xs.length ≤ sizeLine := by rw [← Paired.length rel]; exact z
    have hl : (putK kvs k v).length ≤ sizeLine := by have := length_putK kvs k v; (first | lia | omega)
    refine wpAny_setItem_heap (hsz := hz) (tupleKind_room_in1 hu) (key_of I.hok eb) dd fun h' dd' hs => h _ ?_
    obtain ⟨q, es, ep, hq, h2, h3, h4, _, h5⟩ := dd'
    refine d_write I (by rw [e]; exact True.intro) hs ⟨q, hq⟩ ⟨hl, hd, _, (rel.put k eb rv).keeps fun c ys ec => ?_, q, es, ep, hq, h2, h3, h4, h5⟩
    rw [upd_ne (ne_of ec e (fun z => nomatch z))]
    exact ec
end
section
variable {X : Cx} {pins : List (Addr × Obj)} {σ : St} {H : Hp} {s : Shared} {a : Addr} {kvs : List (Key × V)} {k : Key} {u : Value} {A : Around} {E : Value → Shared → Prop}
theorem d_pop {v : V} {more : List Value} {Q : Value → Shared → Prop} (I : Inv X pins σ H s) (e : H a = some (.dK kvs)) (ry : RelV (kV k) u) (l : valV kvs k = some v) (hm : more = [] ∨ ∃ x, more = [x])
    (h : ∀ w' s', Inv X pins σ (upd H a (.dK (dropK kvs k))) s' → RelV v w' → Q w' s') : wpAny (model X.prog X.w) A (call (.builtin "dict.pop") (.ref a :: u :: more)) Q E s := by
  obtain ⟨z, hd, vs, rel, dd⟩ := dk_of I.hok e
  obtain ⟨w', hw, rw'⟩ := RelO.some_of (v := v) (o := valueAt vs k) (by rw [← l]; exact rel.val k)
  have hp : (keyPart u).isSome = true := by
    cases k with
    | inl i => obtain ⟨t, q⟩ := (show ∃ t, u = Value.int i t from ry); subst q; rfl
    | inr x => obtain ⟨t, q⟩ := (show ∃ t, u = Value.str x t from ry); subst q; rfl
  have ha : argsOk "dict.pop" ⟨.ref a :: u :: more, []⟩ := by
    rcases hm with q | ⟨x, q⟩
    · subst q; exact PySem.F.args_dict_pop_2 _ _
    · subst q; exact PySem.F.args_dict_pop_3 _ _ _
  refine call_meetsIn PySem.F.slot_dict_pop dd.typeIs PySem.F.entry_dict_pop ha (meets_dict_pop_there (mixKind X.prog X.w) a (kV_is ry) more hm hp)
    ⟨vs, w', dd, by rw [← rel.length]; exact z, hw, fun h' dd' hs => h w' _ ?_ rw'⟩
  have he : ∃ q, h'.get? a = some q := let ⟨q, _, _, hq, _⟩ := dd'; ⟨q, hq⟩
  exact d_write I (by rw [e]; exact True.intro) hs he (dk_new (Nat.le_trans (dropK_le kvs k) z) hd (rel.drop k) dd')
end
noncomputable def NoSl (i : Expr) : Prop := ∀ ov iv, subscripted i false ov iv = operate [ov, iv] (getItem ov iv)
theorem subD_of {prog : Program} {w : World} {A : Around} {E : Value → Shared → Prop} {s : Shared} {env : Env} {value slice : Expr} {pos : Pos} {T id : String} {Q : Value → Shared → Prop}
    (hl : typeLookup (.type T) "__getitem__" = pure (some (.builtin id))) (hs : NoSl slice)
    (h : wpAny (model prog w) A (eval value env) (fun o s₁ => wpAny (model prog w) A (eval slice env) (fun i s₂ => s₂.TypeIs o T ∧ wpAny (model prog w) A (getItem o i) Q E s₂) E s₁) E s) :
    wpAny (model prog w) A (eval (.Subscript value slice pos) env) Q E s := by
  refine Subscript_ (wpAny_mono h (fun o s₁ h₁ => wpAny_mono h₁ (fun i s₂ h₂ => ?_) fun _ _ x => x) fun _ _ x => x)
  obtain ⟨hT, h₂⟩ := h₂
  unfold subscriptTail
  refine wpAny_bind ?_
  rw [getitemInPython_of_ne hT.not_modules]
  refine wpAny_bind (wpAny_specialOf hT hl ?_)
  have fin : wpAny (model prog w) A (subscripted slice false o i) (fun r s₃ => wpAny (model prog w) A (letTemporaryGo value o r >>= fun _ => pure r) Q E s₃) E s₂ := by
    rw [hs o i]
    exact wpAny_operating (wpAny_mono h₂ (fun r s₃ h₃ => wpAny_bind (wpAny_letTemporaryGo (wpAny_pure h₃))) fun _ _ x => x)
  first
    | exact wpAny_pure (wpAny_bind fin)
    | exact wpAny_bind (wpAny_pure (wpAny_bind fin))
    | exact wpAny_bind fin
theorem dict_typeIs {X : Cx} {pins : List (Addr × Obj)} {σ : St} {H : Hp} {s : Shared} {a : Addr} {y : V} {o : Option V} (I : Inv X pins σ H s) (g : DGet H a y o) : s.TypeIs (.ref a) "dict" := by
  rcases g with ⟨kvs, k, e, _, _⟩ | ⟨kvs, k, b, e, _, _, _⟩
  · obtain ⟨_, _, vs, _, dd⟩ := dk_rd I.hok e
    exact dd.typeIs
  · obtain ⟨_, _, xs, _, dd⟩ := dt_rd I.hok e
    exact dd.typeIs
inductive tDGet_r (Q : VK) (x : V) (y : V) (H2 : Hp) : Prop
  | mk : ∀ a v, (x = .ref a) → (DGet H2 a y (some v)) → (Q v H2) → tDGet_r Q x y H2
noncomputable def tDGet (td ty : TE) : TE := fun σ H Q => td σ H fun x H1 => ty σ H1 fun y H2 => tDGet_r Q x y H2
inductive tDIn_r (Q : VK) (y : V) (x : V) (H2 : Hp) : Prop
  | mk : ∀ a o, (x = .ref a) → (DGet H2 a y o) → (Q (.bl o.isSome) H2) → tDIn_r Q y x H2
noncomputable def tDIn (ty td : TE) : TE := fun σ H Q => ty σ H fun y H1 => td σ H1 fun x H2 => tDIn_r Q y x H2
inductive sDPut_r (D : Ends) (σ : St) (v : V) (x : V) (y : V) (H3 : Hp) : Prop
  | mk : ∀ a H4, (x = .ref a) → (DPut H3 a y v H4) → (D.nx σ H4) → sDPut_r D σ v x y H3
noncomputable def sDPut (td ty tv : TE) : TS := fun D σ H => tv σ H fun v H1 => td σ H1 fun x H2 => ty σ H2 fun y H3 => sDPut_r D σ v x y H3
section
variable {X : Cx} {o i e value : Expr} {pos pos' tpos : Pos} {td ty tv : TE}
theorem pe_dget (hu : X.A.units + 1 < cLine) (ho : PE X o td) (hi : PE X i ty) (hs : NoSl i) : PE X (.Subscript o i pos) (tDGet td ty) := by
  intro pins s σ H Q I h
  refine subD_of PySem.F.slot_dict_getitem.lookup hs (thnE (ho pins s σ H _ I h) fun u s1 x H1 I1 rx q1 => thnE (hi pins s1 σ H1 _ I1 q1) ?_)
  rintro iv s2 y H2 I2 ry ⟨a, v, ex, g, q2⟩
  subst ex
  obtain rfl : u = Value.ref a := rx
  exact ⟨dict_typeIs I2 g, d_getItem hu I2 g ry fun w' s3 I3 rw' => ⟨v, H2, I3, rw', q2⟩⟩
theorem pc_din (hu : X.A.units + 1 < cLine) (hi : PE X i ty) (ho : PE X o td) : PC X .In i o (tDIn ty td) := by
  intro pins s σ H Q I h
  refine thnE (hi pins s σ H _ I h) fun iv s1 y H1 I1 ry q1 => thnE (ho pins s1 σ H1 _ I1 q1) ?_
  rintro u s2 x H2 I2 rx ⟨a, ov, ex, g, q2⟩
  subst ex
  obtain rfl : u = Value.ref a := rx
  exact d_in hu I2 g ry fun s3 I3 => ⟨.bl ov.isSome, H2, I3, rfl, q2⟩
theorem ps_dput (hu : X.A.units + 1 < cLine) (ho : PE X o td) (hi : PE X i ty) (hv : PE X value tv) (hs : swapsWith value (some (.Subscript o i pos')) pos.line X.env = pure false) :
    PS X (.Assign [.Subscript o i pos'] value pos) (sDPut td ty tv) := by
  intro pins s σ H D I h
  refine wpAny_Assign_Subscript (thnE (hv pins s σ H _ I h) fun r s1 v H1 I1 rv q1 => thnE (ho pins s1 σ H1 _ I1 q1) fun u s2 x H2 I2 rx q2 => thnE (hi pins s2 σ H2 _ I2 q2) fun iv s3 y H3 I3 ry ⟨a, H4, ex, g, q3⟩ => ?_) hs
  subst ex
  obtain rfl : u = Value.ref a := rx
  exact d_setItem hu I3 g ry rv fun s4 I4 => ⟨σ, H4, I4, q3⟩
end
theorem dk_empty {P : Program} {w : World} {H : Hp} (h : Heap) (hb : sysModules < h.objs.size) : ObjOk P w H (h.push { cls := .type "dict", data := .dict #[] }) h.objs.size (.dK []) :=
  ⟨Nat.zero_le _, beq_eq_false_iff_ne.mpr (Ne.symm (Nat.ne_of_lt hb)), [], .nil, Heap.DictOf.new h⟩
theorem dt_empty {P : Program} {w : World} {H : Hp} (h : Heap) (hb : sysModules < h.objs.size) : ObjOk P w H (h.push { cls := .type "dict", data := .dict #[] }) h.objs.size (.dT []) :=
  ⟨Nat.zero_le _, beq_eq_false_iff_ne.mpr (Ne.symm (Nat.ne_of_lt hb)), [], .nil, _, #[], 0, Heap.get?_push_size _ rfl, ⟨rfl, rfl, rfl⟩, rfl, rfl, List.nodup_nil⟩
noncomputable def tDNewT : TE := fun _ H Q => ∀ p, H p = none → Q (.ref p) (upd H p (.dT []))
section
variable {X : Cx} {pos : Pos}
theorem pe_dnewT : PE X (.Dict [] [] pos) tDNewT := fun pins s σ H Q I h =>
  wpAny_Dict_empty ⟨.ref s.heap.objs.size, _, I.laid (a := s.heap.objs.size) (o := .dT []) (t' := s.toks) (fun _ _ q => Heap.get?_push_of_some _ q) (Nat.le_refl _) (dt_empty s.heap I.big), rfl, h _ (I.hok.fresh (Nat.le_refl _))⟩
end
noncomputable def tPairs : List (TE × TE) → St → Hp → (List (V × V) → Hp → Prop) → Prop
  | [], _, H, Q => Q [] H
  | (tk, tv) :: r, σ, H, Q => tk σ H fun x H1 => tv σ H1 fun y H2 => tPairs r σ H2 fun ps H3 => Q ((x, y) :: ps) H3
noncomputable abbrev VV : List (V × V) → List (Value × Value) → Prop := Paired fun p q => RelV p.1 q.1 ∧ RelV p.2 q.2
noncomputable def PPs (X : Cx) (pos : Pos) (keys : List (Option Expr)) (values : List Expr) (trs : List (TE × TE)) : Prop :=
  ∀ (pins : List (Addr × Obj)) (s : Shared) (σ : St) (H : Hp) (Q : List (V × V) → Hp → Prop), Inv X pins σ H s → tPairs trs σ H Q →
    wpAny (model X.prog X.w) X.A (evalPairs (pairTrees keys values X.env pos)) (fun vs s' => ∃ ps H', Inv X pins σ H' s' ∧ VV ps vs ∧ Q ps H') X.xe s
theorem pps_nil {X : Cx} {pos : Pos} : PPs X pos [] [] [] := fun pins s σ H Q I h => pairTrees_nil_walk ⟨[], H, I, .nil, h⟩
theorem pps_cons {X : Cx} {pos : Pos} {k v : Expr} {ks : List (Option Expr)} {vs : List Expr} {tk tv : TE} {trs : List (TE × TE)} (hk : PE X k tk) (hv : PE X v tv) (hr : PPs X pos ks vs trs) :
    PPs X pos (some k :: ks) (v :: vs) ((tk, tv) :: trs) := fun pins s σ H Q I h =>
  pairTrees_cons_walk (thnE (hk pins s σ H _ I h) fun u s1 x H1 I1 rx q1 => thnE (hv pins s1 σ H1 _ I1 q1) fun w2 s2 y H2 I2 ry q2 =>
    thn (hr pins s2 σ H2 _ I2 q2) fun ws s3 ⟨ps, H3, I3, rel, q3⟩ => ⟨(x, y) :: ps, H3, I3, .cons ⟨rx, ry⟩ rel, q3⟩)
noncomputable def mergeK (kvs more : List (Key × V)) : List (Key × V) := more.foldl (fun acc kv => putK acc kv.1 kv.2) kvs
theorem KV.merge : ∀ {more : List (Key × V)} {rs : List (Key × Value)} {kvs : List (Key × V)} {vs : List (Key × Value)}, KV more rs → KV kvs vs → KV (mergeK kvs more) (merged vs rs) := by
  intro more rs kvs vs r
  unfold KV at r
  induction r generalizing kvs vs with
  | nil => intro q; exact q
  | @cons p q ps qs h t ih =>
    intro r0
    have e : KV (putK kvs p.1 p.2) (stored vs q.1 q.2) := by
      have := r0.put p.1 h.2
      rw [← h.1]; exact this
    exact ih e
theorem length_mergeK : ∀ (more kvs : List (Key × V)), (mergeK kvs more).length ≤ kvs.length + more.length
  | [], kvs => by show kvs.length ≤ kvs.length + 0; (first | lia | omega)
  | p :: r, kvs => by
    have h1 := length_mergeK r (putK kvs p.1 p.2)
    have h2 := length_putK kvs p.1 p.2
    show (mergeK (putK kvs p.1 p.2) r).length ≤ _
    rw [List.length_cons]; (first | lia | omega)
theorem carries_of {P : Program} {w : World} : ∀ {kvs : List (Key × V)} {ws : List (Value × Value)}, VV (kvs.map fun kv => (kV kv.1, kv.2)) ws → ∃ rs, Carries (mixKind P w) ws rs ∧ KV kvs rs
  | [], _, r => by rw [List.map_nil] at r; cases r; exact ⟨[], True.intro, .nil⟩
  | p :: kvs, _, r => by
    rw [List.map_cons] at r
    cases r with
    | @cons a b as bs h t =>
      obtain ⟨rs, c, q⟩ := carries_of (P := P) (w := w) t
      obtain ⟨b1, b2⟩ := b
      exact ⟨(p.1, b2) :: rs, ⟨kV_is h.1, rfl, c⟩, .cons ⟨rfl, h.2⟩ q⟩
noncomputable def tDisp (trs : List (TE × TE)) : TE := fun σ H Q => ∀ p, H p = none → tPairs trs σ (upd H p (.dK [])) fun ps H2 => H2 p = some (.dK []) ∧ ∃ kvs : List (Key × V), ps = kvs.map (fun kv => (kV kv.1, kv.2)) ∧ kvs.length ≤ 15 ∧ Q (.ref p) (upd H2 p (.dK (mergeK [] kvs)))
theorem pe_disp {X : Cx} {pos : Pos} {keys : List (Option Expr)} {values : List Expr} {trs : List (TE × TE)} (h : PPs X pos keys values trs) (hall : keys.all (·.isSome) = true) (hl : keys.length = values.length) (h0 : keys ≠ [])
    (h15 : keys.length ≤ 15) : PE X (.Dict keys values pos) (tDisp trs) := by
  intro pins s σ H Q I q
  have hn := I.hok.fresh (Nat.le_refl s.heap.objs.size)
  have I1 := I.laid (a := s.heap.objs.size) (o := .dK []) (h' := s.heap.push { cls := .type "dict", data := .dict #[] }) (t' := s.toks) (fun _ _ q => Heap.get?_push_of_some _ q) (Nat.le_refl _) (dk_empty s.heap I.big)
  refine wpAny_Dict_walk (knd := mixKind X.prog X.w) hall hl h0 h15 (thn (h pins _ σ _ _ I1 (q _ hn)) ?_)
  rintro ws s2 ⟨ps, H2, I2, rel, e, kvs, ep, lk, q2⟩
  subst ep
  obtain ⟨rs, c, rk⟩ := carries_of (P := X.prog) (w := X.w) rel
  obtain ⟨z, hd, vs0, r0, dd⟩ := dk_of I2.hok e
  cases r0
  refine ⟨rs, c, dd, fun h' dd' hs => ⟨.ref s.heap.objs.size, _, ?_, rfl, q2⟩⟩
  have hz : (mergeK [] kvs).length ≤ sizeLine := by
    have h1 := length_mergeK kvs []
    rw [List.length_nil] at h1
    rw [sizeLine_eq]; (first | lia | omega)
  have he : ∃ q, h'.get? s.heap.objs.size = some q := let ⟨q, _, _, hq, _⟩ := dd'; ⟨q, hq⟩
  exact d_write I2 (by rw [e]; exact True.intro) hs he (dk_new hz hd (rk.merge .nil) dd')
structure M1 (X : Cx) (o : Expr) (m : Str) (apos : Pos) (e : Expr) (cpos : Pos) : Prop where
  base : attributeBase o m X.env (eval o X.env) = eval o X.env
  few : ((backTo cpos (starEach [e] X.env)).all (fun x => !x.1) && (backToKw cpos (keywordEach [] X.env)).all (fun x => x.1.isSome)
    && decide (([e] : List Expr).length + ([] : List Keyword).length + (if ([] : List Keyword).isEmpty then 0 else 1) < 30)) = true
  line : (apos.endLine == cpos.line) = true
  trees : backTo cpos (starEach [e] X.env) = [(false, eval e X.env)]
structure M2 (X : Cx) (o : Expr) (m : Str) (apos : Pos) (e f : Expr) (cpos : Pos) : Prop where
  base : attributeBase o m X.env (eval o X.env) = eval o X.env
  few : ((backTo cpos (starEach [e, f] X.env)).all (fun x => !x.1) && (backToKw cpos (keywordEach [] X.env)).all (fun x => x.1.isSome)
    && decide (([e, f] : List Expr).length + ([] : List Keyword).length + (if ([] : List Keyword).isEmpty then 0 else 1) < 30)) = true
  line : (apos.endLine == cpos.line) = true
  trees : backTo cpos (starEach [e, f] X.env) = [(false, eval e X.env), (false, eval f X.env)]
noncomputable def IsD (H : Hp) (a : Addr) : Prop := (∃ kvs, Rd H a (.dK kvs)) ∨ ∃ kvs, Rd H a (.dT kvs)
theorem isD_at {X : Cx} {pins : List (Addr × Obj)} {σ : St} {H : Hp} {s : Shared} {a : Addr} (I : Inv X pins σ H s) (d : IsD H a) :
    s.TypeIs (.ref a) "dict" ∧ (∀ b, Value.ref a = .ref b → ∃ ob, s.heap.get? b = some ob ∧ ob.dict = none) ∧ (a == sysModules) = false := by
  rcases d with ⟨kvs, e⟩ | ⟨kvs, e⟩
  · obtain ⟨_, hd, vs, _, dd⟩ := dk_rd I.hok e
    refine ⟨dd.typeIs, fun b q => ?_, hd⟩
    cases q
    obtain ⟨ob, _, _, h1, h2, -⟩ := dd
    exact ⟨ob, h1, h2.2.1⟩
  · obtain ⟨_, hd, xs, _, dd⟩ := dt_rd I.hok e
    refine ⟨dd.typeIs, fun b q => ?_, hd⟩
    cases q
    obtain ⟨ob, _, _, h1, h2, -⟩ := dd
    exact ⟨ob, h1, h2.2.1⟩
section
variable {X : Cx} {pins : List (Addr × Obj)} {σ : St} {H : Hp} {s : Shared} {a : Addr} {y d : V} {u r : Value} {o : Option V} {A : Around} {E : Value → Shared → Prop}
theorem d_get2 {Q : Value → Shared → Prop} (hu : A.units + 1 < cLine) (I : Inv X pins σ H s) (g : DGet H a y o) (ry : RelV y u) (rd : RelV d r) (h : ∀ w' s', Inv X pins σ H s' → RelV (o.getD d) w' → Q w' s') :
    wpAny (model X.prog X.w) A (call (.builtin "dict.get") [.ref a, u, r]) Q E s := by
  rcases g with ⟨kvs, k, e, ey, l⟩ | ⟨kvs, k, b, e, ey, eb, l⟩
  · subst ey
    obtain ⟨z, hd, vs, rel, dd⟩ := dk_rd I.hok e
    refine call_meetsIn PySem.F.slot_dict_get dd.typeIs PySem.F.entry_dict_get (PySem.F.args_dict_get_3 _ _ _) (meets_dict_get_default (mixKind X.prog X.w) a (kV_is ry) hd r) ⟨_, dd.mapOf, h _ _ (I.tok _) ?_⟩
    rw [l]
    exact (rel.val k).getD rd
  · subst ey
    cases (show u = Value.ref b from ry)
    obtain ⟨z, hd, xs, rel, dd⟩ := dt_rd I.hok e
    refine call_meetsIn PySem.F.slot_dict_get dd.typeIs PySem.F.entry_dict_get (PySem.F.args_dict_get_3 _ _ _) (meetsH_dict_get_default (tupleKind (mixKind X.prog X.w)) a b hd r) ⟨tupleKind_room_in1 hu, k, xs, key_of I.hok eb, dd, h _ _ (I.tok _) ?_⟩
    rw [l]
    exact (rel.val k).getD rd
end
inductive tDGet2_r (ty : TE) (tx : TE) (σ : St) (Q : VK) (x : V) (H1 : Hp) : Prop
  | mk : ∀ a, (x = .ref a) → (IsD H1 a) → (ty σ H1 fun y H2 => tx σ H2 fun z H3 => ∃ o, DGet H3 a y o ∧ Q (o.getD z) H3) → tDGet2_r ty tx σ Q x H1
noncomputable def tDGet2 (td ty tx : TE) : TE := fun σ H Q => td σ H fun x H1 => tDGet2_r ty tx σ Q x H1
inductive tDPop1_r (ty : TE) (σ : St) (Q : VK) (x : V) (H1 : Hp) : Prop
  | mk : ∀ a, (x = .ref a) → (IsD H1 a) → (ty σ H1 fun y H2 => ∃ kvs k v, H2 a = some (.dK kvs) ∧ y = kV k ∧ valV kvs k = some v ∧ Q v (upd H2 a (.dK (dropK kvs k)))) → tDPop1_r ty σ Q x H1
noncomputable def tDPop1 (td ty : TE) : TE := fun σ H Q => td σ H fun x H1 => tDPop1_r ty σ Q x H1
section
variable {X : Cx} {o e f : Expr} {apos cpos : Pos} {td ty tx : TE}
theorem pe_dget2 (hu : X.A.units + 1 < cLine) (ho : PE X o td) (he : PE X e ty) (hf : PE X f tx) (m : M2 X o "get" apos e f cpos) : PE X (.Call (.Attribute o "get" apos) [e, f] [] cpos) (tDGet2 td ty tx) := by
  intro pins s σ H Q I h
  refine wpAny_Call_method m.base m.few m.line PySem.F.plainAttrs_dict PySem.F.slot_dict_get PySem.F.type_dict_get (thnE (ho pins s σ H _ I h) ?_)
  rintro u s1 x H1 I1 rx ⟨a, ex, d, q1⟩
  subst ex
  obtain rfl : u = Value.ref a := rx
  obtain ⟨t1, t2, -⟩ := isD_at I1 d
  refine ⟨t1, t2, ?_⟩
  rw [m.trees]
  refine Calls.callWith_builtin rfl (Calls.evalArgs_plain (Calls.spliced_cons (thnE (he pins s1 σ H1 _ I1 q1) fun iv s2 y H2 I2 ry q2 =>
    Calls.spliced_cons (thnE (hf pins s2 σ H2 _ I2 q2) fun fv s3 z H3 I3 rz ⟨ov, g, q3⟩ => Calls.spliced_nil ?_))))
  exact d_get2 hu I3 g ry rz fun w' s4 I4 rw' => ⟨_, H3, I4, rw', q3⟩
theorem pe_dpop1 (ho : PE X o td) (he : PE X e ty) (m : M1 X o "pop" apos e cpos) : PE X (.Call (.Attribute o "pop" apos) [e] [] cpos) (tDPop1 td ty) := by
  intro pins s σ H Q I h
  refine wpAny_Call_method m.base m.few m.line PySem.F.plainAttrs_dict PySem.F.slot_dict_pop PySem.F.type_dict_pop (thnE (ho pins s σ H _ I h) ?_)
  rintro u s1 x H1 I1 rx ⟨a, ex, d, q1⟩
  subst ex
  obtain rfl : u = Value.ref a := rx
  obtain ⟨t1, t2, -⟩ := isD_at I1 d
  refine ⟨t1, t2, ?_⟩
  rw [m.trees]
  refine Calls.callWith_builtin rfl (Calls.evalArgs_plain (Calls.spliced_cons (thnE (he pins s1 σ H1 _ I1 q1) fun iv s2 y H2 I2 ry ⟨kvs, k, v, ea, ey, l, q2⟩ => Calls.spliced_nil ?_)))
  subst ey
  exact d_pop I2 ea ry l (.inl rfl) fun w' s3 I3 rw' => ⟨v, _, I3, rw', q2⟩
end
section
variable {X : Cx} {pins : List (Addr × Obj)} {σ : St} {H : Hp} {s : Shared} {a : Addr} {kvs : List (Key × V)} {A : Around} {E : Value → Shared → Prop}
end
section
variable {X : Cx} {pins : List (Addr × Obj)} {σ : St} {H : Hp} {s : Shared} {a : Addr} {y : V} {u : Value} {A : Around} {E : Value → Shared → Prop}
end
end L2
namespace HT
open PySem PyProof.Rows
noncomputable def lexLt : List Int → List Int → Bool
  | [], [] => false
  | [], _ :: _ => true
  | _ :: _, [] => false
  | x :: xs, y :: ys => if x = y then lexLt xs ys else decide (x < y)
theorem lexLt_cons (x y : Int) (xs ys : List Int) : lexLt (x :: xs) (y :: ys) = if x = y then lexLt xs ys else decide (x < y) := rfl
theorem lexLt_nil_nil : lexLt [] [] = false := rfl
theorem lexLt_nil_cons (y : Int) (ys : List Int) : lexLt [] (y :: ys) = true := rfl
theorem lexLt_cons_nil (x : Int) (xs : List Int) : lexLt (x :: xs) [] = false := rfl
theorem eqAt_int (A : Around) (s : Shared) (a : Int) (t : Tok) (c : Int) (u : Tok) : ∃ e, SeqAt.EqAt A s (.int a t) (.int c u) e ∧ (e = true ↔ a = c) :=
  ⟨(a == c), SeqAt.EqAt.int_int a t c u, by simp⟩
theorem rcLt_int (A : Around) (s : Shared) (a : Int) (t : Tok) (c : Int) (u : Tok) (prog : Program) (w : World) (E : Value → Shared → Prop) (Q : Value → Shared → Prop) (h : Q (.bool (decide (a < c))) s) :
    wpAny (model prog w) A (richCompare .Lt (.int a t) (.int c u)) Q E s :=
  (PyProof.Rows.lt_int h : wpAny (model prog w) A (compareOp .Lt (.int a t) (.int c u)) Q E s)
section
open PySem.SeqAt
open PySem.AutoSeq1 (wpAny_loadPart')
open PySem.MeetsSeq PySem.MeetsSeq2 PySem.MeetsSeq3
theorem tuple_lt_ints (l b : Addr) (items items2 : Array Value) (n n2 : Nat) (dd dd2 : Option Addr) (sl sl2 : Array (Option Value)) (ns ms : List Int) (hi : IntsAre items.toList ns) (hj : IntsAre items2.toList ms) :
    Meets (Builtin.«tuple.__lt__» ⟨[.ref l, .ref b], []⟩)
      (fun _ R s => s.heap.get? l = some { cls := .type "tuple", dict := dd, data := .seq items n, slots := sl } ∧ s.heap.get? b = some { cls := .type "tuple", dict := dd2, data := .seq items2 n2, slots := sl2 } ∧
        R (.ok (.ret (.bool (lexLt ns ms)))) s) :=
  .of_wp fun prog w A R s h => by
    obtain ⟨hp, g, d, tk, os⟩ := s; obtain ⟨hl, hb, h⟩ := h
    have f2 := AutoSeq1.sub_tuple_tuple
    have z1 : items.size = ns.length := by rw [← hi.length]; simp
    have z2 : items2.size = ms.length := by rw [← hj.length]; simp
    wp_walk using wpAny_loadPart' hl, wpAny_loadPart' hb, wpAny_forIn_list _ (fun rest b s' => b.1 = none ∧ s' = ⟨hp, g, d, tk, os⟩ ∧ ∃ (vs ws : List Value) (ns' ms' : List Int), rest = vs.zip ws ∧
      IntsAre vs ns' ∧ IntsAre ws ms' ∧ ns'.length + items2.size = ms'.length + items.size ∧ R (.ok (.ret (.bool (lexLt ns' ms')))) ⟨hp, g, d, tk, os⟩) _
    case turn =>
      rintro ⟨y, x⟩ rest b s' ⟨hb', rfl, vs, ws, ns', ms', hz, hvi, hwi, hlen, hR⟩
      cases hvi with
      | nil => rw [List.zip_nil_left] at hz; cases hz
      | cons a t hvi' =>
        cases hwi with
        | nil => rw [List.zip_nil_right] at hz; cases hz
        | cons c u hwi' =>
          rw [List.zip_cons_cons] at hz
          injection hz with hyx hrest
          injection hyx with hy hx
          subst hy hx
          rw [lexLt_cons] at hR
          simp only [List.length_cons] at hlen
          obtain ⟨e, he, hiff⟩ := eqAt_int A.in1 ⟨hp, g, d, tk, os⟩ a t c u
          refine wpAny_bind (he prog w _ _ ?_)
          cases e with
          | true =>
            rw [if_pos (hiff.mp rfl)] at hR
            wp_walk
            exact ⟨rfl, rfl, _, _, _, _, hrest, hvi', hwi', om, hR⟩
          | false =>
            rw [if_neg (fun q => absurd (hiff.mpr q) Bool.false_ne_true)] at hR
            have hri := rcLt_int A.in1 ⟨hp, g, d, tk, os⟩ a t c u prog w
            wp_walk using hri
            exact ⟨_, rfl, by simpa using hR⟩
    case fin =>
      rintro ⟨b1, b2⟩ s' ⟨hb', rfl, vs, ws, ns', ms', hz, hvi, hwi, hlen, hR⟩
      simp only at hb'
      subst hb'
      have hv : lexLt ns' ms' = decide (items.size < items2.size) := by
        cases hvi with
        | nil =>
          cases hwi with
          | nil =>
            simp only [List.length_nil] at hlen
            rw [lexLt_nil_nil]
            exact (decide_eq_false om).symm
          | cons c u hw =>
            simp only [List.length_nil, List.length_cons] at hlen
            rw [lexLt_nil_cons]
            exact (decide_eq_true om).symm
        | cons a t hv =>
          cases hwi with
          | nil =>
            simp only [List.length_nil, List.length_cons] at hlen
            rw [lexLt_cons_nil]
            exact (decide_eq_false om).symm
          | cons c u hw =>
            rw [List.zip_cons_cons] at hz
            cases hz
      rw [hv] at hR
      wp_walk
      exact ⟨_, rfl, by simpa [Builtin.Tuple.tupleCompareSizes] using hR⟩
    case h =>
      exact ⟨rfl, rfl, items.toList, items2.toList, ns, ms, rfl, hi, hj, om, h⟩
end
section
variable {prog : Program} {w : World} {A : Around} {E : Value → Shared → Prop} {s : Shared}
theorem lt_tupInts {l b : Addr} {items items2 : Array Value} {ns ms : List Int} {Q : Value → Shared → Prop} (hl : IsTup s.heap l items) (hb : IsTup s.heap b items2) (hi : IntsAre items.toList ns) (hj : IntsAre items2.toList ms)
    (hu : A.units < cLine) (h : Q (.bool (lexLt ns ms)) s) : wpAny (model prog w) A (compareOp .Lt (.ref l) (.ref b)) Q E s := by
  obtain ⟨⟨cls, dd, data, sl⟩, ho, hc, n, hd⟩ := id hl
  obtain ⟨⟨cls2, dd2, data2, sl2⟩, ho2, hc2, n2, hd2⟩ := id hb
  simp only at hc hd hc2 hd2
  subst hc hd hc2 hd2
  exact richCompare_meets_room (op := .Lt) ⟨_, ho, rfl⟩ ⟨_, ho2, rfl⟩ PySem.F.slot_tuple_lt PySem.F.entry_tuple_lt (PySem.F.args_tuple_lt_2 _ _) (tuple_lt_ints l b items items2 n n2 dd dd2 sl sl2 ns ms hi hj)
    ⟨ho, ho2, show Value.bool (lexLt ns ms) ≠ Value.notImplemented ∧ Q (.bool (lexLt ns ms)) s from ⟨(fun x => nomatch x), h⟩⟩ hu
noncomputable def sIx (n d : Nat) : Option Int → Nat
  | none => d
  | some v => if v < 0 then (v + (n : Int)).toNat else min v.toNat n
theorem sIx_none (n d : Nat) : sIx n d none = d := rfl
theorem sIx_nat (n d k : Nat) : sIx n d (some (k : Int)) = min k n := by
  show (if (k : Int) < 0 then ((k : Int) + (n : Int)).toNat else min (k : Int).toNat n) = min k n
  rw [if_neg om, Int.toNat_natCast]
theorem sIx_le (n d : Nat) (hd : d ≤ n) (o : Option Int) : sIx n d o ≤ n := by
  cases o with
  | none => exact hd
  | some v =>
    show (if v < 0 then (v + (n : Int)).toNat else min v.toNat n) ≤ n
    by_cases hv : v < 0
    · rw [if_pos hv]; (first | lia | omega)
    · rw [if_neg hv]; exact Nat.min_le_right _ _
theorem clip_eq (v : Int) (n d : Nat) : (if v < 0 then max (v + (n : Int)) 0 else min v (n : Int)) = ((sIx n d (some v) : Nat) : Int) := by
  show (if v < 0 then max (v + (n : Int)) 0 else min v (n : Int)) = (((if v < 0 then (v + (n : Int)).toNat else min v.toNat n) : Nat) : Int)
  by_cases hv : v < 0
  · simp only [if_pos hv]; (first | lia | omega)
  · simp only [if_neg hv]; (first | lia | omega)
theorem adjust_gen (lo hi : Option Int) (n : Nat) : Builtin.Slice.sliceAdjust lo hi 1 (n : Int) = (((sIx n 0 lo : Nat) : Int), ((sIx n n hi : Nat) : Int)) := by
  have h1 : ¬ ((1 : Int) < 0) := by first | lia | omega
  unfold Builtin.Slice.sliceAdjust
  simp only [h1, if_false]
  refine Prod.ext ?_ ?_
  · cases lo with
    | none => rfl
    | some v => exact clip_eq v n 0
  · cases hi with
    | none => rfl
    | some v => exact clip_eq v n n
theorem places_gen (i j : Nat) : Builtin.Slice.slicePlaces (i : Int) (j : Int) 1 = j - i := by
  unfold Builtin.Slice.slicePlaces
  have h1 : (1 : Int) > 0 := by first | lia | omega
  simp only [h1, if_true, Int.ediv_one]
  split <;> (first | lia | omega)
theorem slicePart_ {v : Value} {o : Option Int} {Q : Option Int → Shared → Prop} (p : IsPart v o) (h : Q o s) : wpAny (model prog w) A (Builtin.Slice.slicePartIndex v) Q E s := by
  cases p with
  | none => exact slicePart_none h
  | int i t => exact slicePart_int h
theorem sliceApplied_gen {sl : Addr} {vl vu : Value} {lo hi : Option Int} {n : Nat} {Q : Int × Int × Nat → Shared → Prop} (hs : s.heap.IsSliceOf sl vl vu .none) (pl : IsPart vl lo) (pu : IsPart vu hi)
    (h : Q (((sIx n 0 lo : Nat) : Int), 1, sIx n n hi - sIx n 0 lo) s) : wpAny (model prog w) A (Builtin.Slice.sliceApplied (.ref sl) (pure (n : Int))) Q E s := by
  obtain ⟨os, hos, hcs, hds⟩ := id hs
  unfold Builtin.Slice.sliceApplied Builtin.Slice.sliceFields
  refine wpAny_bind (wpAny_bind (wpAny_field hos hds (x := vl) rfl (wpAny_bind (wpAny_field hos hds (x := vu) rfl (wpAny_bind (wpAny_field hos hds (x := .none) rfl (wpAny_pure ?_)))))))
  refine wpAny_bind (slicePart_none ?_)
  show wpAny _ _ (if ((1 : Int) == 0) = true then _ else _) _ _ s
  rw [if_neg (by decide)]
  refine wpAny_bind (slicePart_ pl (wpAny_bind (slicePart_ pu (wpAny_bind (wpAny_pure ?_)))))
  show wpAny _ _ (match Builtin.Slice.sliceAdjust lo hi 1 (n : Int) with | (lo, hi) => pure (lo, (1 : Int), Builtin.Slice.slicePlaces lo hi 1)) _ _ s
  rw [adjust_gen lo hi n]
  show wpAny _ _ (pure (((sIx n 0 lo : Nat) : Int), (1 : Int), Builtin.Slice.slicePlaces ((sIx n 0 lo : Nat) : Int) ((sIx n n hi : Nat) : Int) 1)) _ _ s
  rw [places_gen]
  exact wpAny_pure h
theorem pick_gen (xs : Array Value) (i k : Nat) : ((List.range k).filterMap fun (m : Nat) => xs[((i : Int) + (m : Int) * 1).toNat]?).toArray = ((xs.toList.drop i).take k).toArray := by
  have e : (fun (m : Nat) => xs[((i : Int) + (m : Int) * 1).toNat]?) = fun m => xs[i + m]? := by
    funext m
    have : ((i : Int) + (m : Int) * 1).toNat = i + m := by first | lia | omega
    rw [this]
  rw [e]
  have := pick_run xs i k
  rw [List.filterMap_map] at this
  have e2 : ((fun x => xs[x]?) ∘ fun x => i + x) = fun m => xs[i + m]? := rfl
  rw [e2] at this
  rw [this]
theorem getItem_tuple_cut {t sl : Addr} {items : Array Value} {vl vu : Value} {lo hi : Option Int} {Q : Value → Shared → Prop} (ht : IsTup s.heap t items) (hs : s.heap.IsSliceOf sl vl vu .none) (pl : IsPart vl lo) (pu : IsPart vu hi)
    (hw : ¬ (sIx items.size 0 lo = 0 ∧ sIx items.size items.size hi = items.size))
    (h : Q (.ref s.heap.objs.size) { s with heap := s.heap.push { cls := .type "tuple", data := .seq ((items.toList.drop (sIx items.size 0 lo)).take (sIx items.size items.size hi - sIx items.size 0 lo)).toArray } })
    (hsz : items.size ≤ sizeLine) : wpAny (model prog w) A (getItem (.ref t) (.ref sl)) Q E s := by
  have htake : sizeOk (.seq ((items.toList.drop (sIx items.size 0 lo)).take (sIx items.size items.size hi - sIx items.size 0 lo)).toArray) := by
    show ((items.toList.drop (sIx items.size 0 lo)).take (sIx items.size items.size hi - sIx items.size 0 lo)).toArray.size ≤ sizeLine
    rw [List.size_toArray, List.length_take, List.length_drop, Array.length_toList]
    (first | lia | omega)
  have hj : sIx items.size items.size hi ≤ items.size := sIx_le _ _ (Nat.le_refl _) hi
  obtain ⟨os, hos, hcs, hds⟩ := id hs
  have hTs : s.TypeIs (.ref sl) "slice" := ⟨os, hos, hcs⟩
  unfold getItem
  try with_reducible refine wpAny_holding ?_
  first | refine wpAny_bind (wpAny_pure ?_) | skip
  refine wpAny_bind (wpAny_sequenceKey ht.typeIs (by decide) ?_)
  refine wpAny_bind (wpAny_callSpecial?_slot (name := Str.ofString "__getitem__") ht.typeIs PyProof.Rows.slot_tuple_getitem
    (wpAny_call_entry PyProof.Rows.slot_tuple_getitem ht.typeIs entry_tuple_getitem ?_ (args_tuple_getitem _ _)))
  show wpAny _ _ (Builtin.Tuple.tupleItemsOf (.ref t) >>= _) _ _ s
  refine wpAny_bind (tupleItemsOf_ ht ?_)
  refine wpAny_bind (wpAny_typeOf hTs ?_)
  rw [if_pos (by decide)]
  refine wpAny_bind (sliceApplied_gen hs pl pu ?_)
  have hno : ¬ ((((sIx items.size 0 lo : Nat) : Int) == 0 && (1 : Int) == 1 && (sIx items.size items.size hi - sIx items.size 0 lo) == items.size) = true) := by
    intro q
    rw [Bool.and_eq_true, Bool.and_eq_true] at q
    have q1 : ((sIx items.size 0 lo : Nat) : Int) = 0 := eq_of_beq q.1.1
    have q2 : sIx items.size items.size hi - sIx items.size 0 lo = items.size := eq_of_beq q.2
    exact hw ⟨om, om⟩
  show wpAny _ _ (if (((sIx items.size 0 lo : Nat) : Int) == 0 && (1 : Int) == 1 && (sIx items.size items.size hi - sIx items.size 0 lo) == items.size) = true then _ else _) _ _ s
  rw [if_neg hno, pick_gen]
  first
    | exact wpAny_bind (m := Builtin.Tuple.tupleExact _) (wpAny_newObj_type (wpAny_pure ⟨_, rfl, wpAny_pure h⟩) htake)
    | exact wpAny_bind (m := Builtin.Tuple.tupleExact _) (wpAny_newObj_type (wpAny_bind (wpAny_pure (wpAny_pure ⟨_, rfl, wpAny_pure h⟩))) htake)
    | exact wpAny_bind (wpAny_bind (m := Builtin.Tuple.tupleExact _) (wpAny_newObj_type (wpAny_pure (wpAny_pure ⟨_, rfl, wpAny_pure h⟩)) htake))
    | exact wpAny_bind (wpAny_bind (m := Builtin.Tuple.tupleExact _) (wpAny_newObj_type (wpAny_pure ⟨_, rfl, wpAny_pure h⟩) htake))
end
end HT
namespace L2
open PySem PySem.Spec PyProof.Rows
noncomputable abbrev TO := St → Hp → (Option Int → Hp → Prop) → Prop
noncomputable def PO (X : Cx) (e : Option Expr) (t : TO) : Prop :=
  ∀ (pins : List (Addr × Obj)) (s : Shared) (σ : St) (H : Hp) (Q : Option Int → Hp → Prop), Inv X pins σ H s → t σ H Q →
    wpAny (model X.prog X.w) X.A (evalPart e X.env) (fun u s' => ∃ o H', Inv X pins σ H' s' ∧ IsPart u o ∧ Q o H') X.xe s
noncomputable def tNoPart : TO := fun _ H Q => Q none H
inductive tPart_r (Q : Option Int → Hp → Prop) (x : V) (H1 : Hp) : Prop
  | mk : ∀ i, (x = .int i) → (Q (some i) H1) → tPart_r Q x H1
noncomputable def tPart (t : TE) : TO := fun σ H Q => t σ H fun x H1 => tPart_r Q x H1
theorem intsAre_of {ns : List Int} : ∀ {us : List Value}, Vals (ns.map V.int) us → IntsAre us ns := by
  induction ns with
  | nil => intro us r; rw [List.map_nil] at r; cases r; exact .nil
  | cons n ns ih =>
    intro us r
    rw [List.map_cons] at r
    cases r with
    | cons r1 r2 =>
      obtain ⟨t, e⟩ := r1
      subst e
      exact .cons n t (ih r2)
section
variable {X : Cx} {e : Expr} {te : TE} {lo hi : Option Expr} {tl th : TO} {pos p2 : Pos}
theorem po_none : PO X none tNoPart := by
  intro pins s σ H Q I h
  rw [evalPart_none]
  exact wpAny_pure ⟨none, H, I, .none, h⟩
theorem po_some (h : PE X e te) : PO X (some e) (tPart te) := by
  intro pins s σ H Q I hw
  rw [evalPart_some]
  refine thnE (h pins s σ H _ I hw) fun u s1 x H1 I1 r1 q1 => ?_
  obtain ⟨i, rfl, q⟩ := q1
  obtain ⟨t, rfl⟩ := r1
  exact ⟨some i, H1, I1, .int i t, q⟩
noncomputable def SlR (X : Cx) (r : V → Option Int → Option Int → Hp → VK → Prop) : Prop :=
  ∀ (pins : List (Addr × Obj)) (s : Shared) (σ : St) (H : Hp) (x : V) (v vl vu : Value) (lo hi : Option Int) (sl : Addr) (Q : VK), Inv X pins σ H s → RelV x v → s.heap.IsSliceOf sl vl vu .none → IsPart vl lo → IsPart vu hi → r x lo hi H Q →
    ∃ T id, typeLookup (.type T) "__getitem__" = pure (some (.builtin id)) ∧ s.TypeIs v T ∧ wpAny (model X.prog X.w) X.A (getItem v (.ref sl)) (EP X pins σ Q) X.xe s
noncomputable def tSl (r : V → Option Int → Option Int → Hp → VK → Prop) (te : TE) (tl th : TO) : TE := fun σ H Q => te σ H fun x H1 => tl σ H1 fun l H2 => th σ H2 fun u H3 => r x l u H3 Q
theorem pe_slice {r : V → Option Int → Option Int → Hp → VK → Prop} (hr : SlR X r) (he : PE X e te) (hl : PO X lo tl) (hu : PO X hi th) : PE X (.Subscript e (.Slice lo hi none p2) pos) (tSl r te tl th) := by
  intro pins s σ H Q I h
  refine Subscript_ (thnE (he pins s σ H _ I h) fun v s1 x H1 I1 r1 q1 => ?_)
  refine wpAny_Slice (thn (hl pins s1 σ H1 _ I1 q1) fun vl s2 ⟨l, H2, I2, pl, q2⟩ => thn (hu pins s2 σ H2 _ I2 q2) fun vu s3 ⟨u, H3, I3, pu, q3⟩ => ?_)
  rw [evalPart_none]
  refine wpAny_pure ?_
  have I4 : Inv X pins σ H3 { s3 with heap := s3.heap.push { cls := .type "slice", data := .fields #[vl, vu, .none] } } := I3.kept (t' := s3.toks) fun b ob q => Heap.get?_push_of_some _ q
  obtain ⟨T, id, hT, ht, hg⟩ := hr pins { s3 with heap := s3.heap.push { cls := .type "slice", data := .fields #[vl, vu, .none] } } σ H3 x v vl vu l u s3.heap.objs.size Q I4 r1 (Heap.IsSliceOf.new ..) pl pu q3
  show wpAny (model X.prog X.w) X.A (subscriptTail e (.Slice lo hi none p2) v (.ref s3.heap.objs.size)) (EP X pins σ Q) X.xe { s3 with heap := s3.heap.push { cls := .type "slice", data := .fields #[vl, vu, .none] } }
  exact tail_any (ops := [.ref s3.heap.objs.size, v]) ht hT hg (by with_unfolding_all rfl)
noncomputable def cutV (xs : List V) (lo hi : Option Int) : List V := (xs.drop (HT.sIx xs.length 0 lo)).take (HT.sIx xs.length xs.length hi - HT.sIx xs.length 0 lo)
theorem cutV_length (xs : List V) (lo hi : Option Int) : (cutV xs lo hi).length ≤ xs.length := by
  unfold cutV
  rw [List.length_take, List.length_drop]
  (first | lia | omega)
inductive rSlT_r (K : PySem.W.Frag) (x : V) (lo : Option Int) (hi : Option Int) (H : Hp) (Q : VK) : Prop
  | mk : ∀ a xs, (x = .ref a) → (SqT K H a xs) → (¬ (HT.sIx xs.length 0 lo = 0 ∧ HT.sIx xs.length xs.length hi = xs.length)) → (∀ p, H p = none → Q (.ref p) (upd H p (.tup (cutV xs lo hi)))) → rSlT_r K x lo hi H Q
noncomputable def rSlT (K : PySem.W.Frag) : V → Option Int → Option Int → Hp → VK → Prop := fun x lo hi H Q => rSlT_r K x lo hi H Q
theorem sl_tup : SlR X (rSlT X.K) := by
  intro pins s σ H x v vl vu lo hi sl Q I rx hs pl pu h
  obtain ⟨a, xs, rfl, hx, hw, q⟩ := h
  cases rx
  obtain ⟨its, r, ht, hz⟩ := I.tuple hx
  have hlen : its.toArray.size = xs.length := by rw [List.size_toArray]; exact r.length.symm
  refine ⟨"tuple", _, PyProof.Rows.slot_tuple_getitem.lookup, ht.typeIs, ?_⟩
  refine HT.getItem_tuple_cut ht hs pl pu (by rw [hlen]; exact hw) ?_ (by rw [hlen]; exact hz)
  rw [hlen]
  refine ⟨.ref s.heap.objs.size, _, I.laid (t' := s.toks) (o := .tup (cutV xs lo hi)) (fun b ob q => Heap.get?_push_of_some _ q) (Nat.le_refl _) ?_, rfl, q _ (I.hok.fresh (Nat.le_refl _))⟩
  exact ⟨⟨Nat.le_trans (cutV_length xs lo hi) hz, _, Heap.get?_push_size _ rfl, rfl⟩, _, (r.drop (HT.sIx xs.length 0 lo)).take (HT.sIx xs.length xs.length hi - HT.sIx xs.length 0 lo), IsTup.new _ _⟩
end
end L2
namespace L2
open PySem PySem.Spec PyProof.Rows
noncomputable def ixN (n : Nat) (i : Int) : Option Nat := if 0 ≤ i then (if i < n then some i.toNat else none) else if -(n : Int) ≤ i then some (i + n).toNat else none
noncomputable def atI {α : Type} (xs : List α) (i : Int) : Option α := (ixN xs.length i).bind fun j => xs[j]?
theorem ixN_seq {n : Nat} {i : Int} {j : Nat} (h : ixN n i = some j) : seqIndex? i n = some j ∧ j < n ∧ -(n : Int) ≤ i ∧ i < n := by
  unfold ixN at h
  by_cases h0 : 0 ≤ i
  · rw [if_pos h0] at h
    by_cases h1 : i < n
    · rw [if_pos h1] at h
      have e : i.toNat = j := Option.some.inj h
      exact ⟨by rw [seqIndex_of h0 h1, e], om, om, h1⟩
    · rw [if_neg h1] at h; cases h
  · rw [if_neg h0] at h
    by_cases h1 : -(n : Int) ≤ i
    · rw [if_pos h1] at h
      have e : (i + n).toNat = j := Option.some.inj h
      exact ⟨by rw [seqIndex_neg om h1, e], om, h1, om⟩
    · rw [if_neg h1] at h; cases h
theorem atI_get {α : Type} {xs : List α} {i : Int} {v : α} (h : atI xs i = some v) : ∃ j, seqIndex? i xs.length = some j ∧ xs[j]? = some v ∧ j < xs.length ∧ -(xs.length : Int) ≤ i ∧ i < xs.length := by
  unfold atI at h
  cases e : ixN xs.length i with
  | none => rw [e] at h; cases h
  | some j =>
    rw [e] at h
    obtain ⟨h1, h2, h3, h4⟩ := ixN_seq e
    exact ⟨j, h1, h, h2, h3, h4⟩
theorem atI_nat {α : Type} {xs : List α} {j : Nat} {v : α} (h : xs[j]? = some v) : atI xs (j : Int) = some v := by
  have hj : j < xs.length := (List.getElem?_eq_some_iff.mp h).1
  have e : ixN xs.length (j : Int) = some j := by
    unfold ixN
    rw [if_pos om, if_pos om]; simp
  unfold atI; rw [e]; exact h
noncomputable def PlainIx (b : Expr) : Prop := ∀ o i, subscripted b false o i = operate [o, i] (getItem o i)
noncomputable def IxR (X : Cx) (r : R2) : Prop :=
  ∀ (value slice : Expr) (pins : List (Addr × Obj)) (s : Shared) (σ : St) (H : Hp) (x y : V) (v u : Value) (Q : VK), Inv X pins σ H s → RelV x v → RelV y u → r x y H Q →
    subscripted slice false v u = operate [v, u] (getItem v u) → wpAny (model X.prog X.w) X.A (subscriptTail value slice v u) (EP X pins σ Q) X.xe s
noncomputable def MtR (X : Cx) (id : String) (r : V → List V → Hp → VK → Prop) : Prop :=
  ∀ (pins : List (Addr × Obj)) (s : Shared) (σ : St) (H : Hp) (x : V) (xs : List V) (v : Value) (us : List Value) (Q : VK), Inv X pins σ H s → RelV x v → Vals xs us → r x xs H Q →
    wpAny (model X.prog X.w) X.A (call (.builtin id) (v :: us)) (EP X pins σ Q) X.xe s
section
variable {X : Cx} {a b : Expr} {ta tb : TE} {pos : Pos}
theorem pe_ix {r : R2} (hr : IxR X r) (ha : PE X a ta) (hb : PE X b tb) (hs : PlainIx b) : PE X (.Subscript a b pos) (tOp r ta tb) := by
  intro pins s σ H Q I h
  exact Subscript_ (binT ha hb I h fun v u s2 x y H2 I2 rx ry q => hr a b pins s2 σ H2 x y v u Q I2 rx ry q (hs _ _))
inductive rIxL_r (K : PySem.W.Frag) (x : V) (y : V) (H : Hp) (Q : VK) : Prop
  | mk : ∀ p xs i v, (x = .ref p) → (y = .int i) → (SqL K H p xs) → (atI xs i = some v) → (Q v H) → rIxL_r K x y H Q
noncomputable def rIxL (K : PySem.W.Frag) : R2 := fun x y H Q => rIxL_r K x y H Q
inductive rIxT_r (K : PySem.W.Frag) (x : V) (y : V) (H : Hp) (Q : VK) : Prop
  | mk : ∀ p xs i v, (x = .ref p) → (y = .int i) → (SqT K H p xs) → (atI xs i = some v) → (Q v H) → rIxT_r K x y H Q
noncomputable def rIxT (K : PySem.W.Frag) : R2 := fun x y H Q => rIxT_r K x y H Q
theorem ix_list : IxR X (rIxL X.K) := by
  intro value slice pins s σ H x y v u Q I rx ry h hs
  obtain ⟨p, xs, i, z, rfl, rfl, hq, he, q⟩ := h
  cases rx
  obtain ⟨t, rfl⟩ := ry
  obtain ⟨its, r, pl, hz⟩ := I.list hq
  obtain ⟨j, h1, h2, h3, h4, h5⟩ := atI_get he
  obtain ⟨w, ew, rw'⟩ := r.get h2
  have hl := r.length
  have hn := line63
  have fin : EP X pins σ Q w s := ⟨z, H, I, rw', q⟩
  by_cases h0 : 0 ≤ i
  · have hj : i.toNat = j := by
      rw [seqIndex_of h0 h5] at h1
      exact Option.some.inj h1
    exact item_listR pl.isList h0 om (by rw [hj]; simpa using ew) fin hs
  · have hj : (i + (its.toArray.size : Int)).toNat = j := by
      rw [seqIndex_neg om h4] at h1
      rw [List.size_toArray, ← hl]
      exact Option.some.inj h1
    exact subscriptTail_builtinR (x := w) pl.isList.typeIs slot_list_getitem.lookup
      (wpAny_getItem_list_neg (Q := fun r s' => r = w ∧ EP X pins σ Q r s') pl.isList om (by rw [List.size_toArray] <;> (first | lia | omega)) om (by rw [hj]; simpa using ew) ⟨rfl, fin⟩) hs
theorem ix_tup : IxR X (rIxT X.K) := by
  intro value slice pins s σ H x y v u Q I rx ry h hs
  obtain ⟨p, xs, i, z, rfl, rfl, hq, he, q⟩ := h
  cases rx
  obtain ⟨t, rfl⟩ := ry
  obtain ⟨its, r, pl, hz⟩ := I.tuple hq
  obtain ⟨j, h1, h2, h3, h4, h5⟩ := atI_get he
  obtain ⟨w, ew, rw'⟩ := r.get h2
  have hl := r.length
  have hn := line63
  have fin : EP X pins σ Q w s := ⟨z, H, I, rw', q⟩
  exact subscriptTail_builtinR (x := w) pl.typeIs slot_tuple_getitem.lookup
    (getItem_tuple (j := j) (Q := fun r s' => r = w ∧ EP X pins σ Q r s') pl om om (by rw [List.size_toArray, ← hl]; exact h1) (by simpa using ew) ⟨rfl, fin⟩) hs
theorem mapSeq_set (its : List Value) (n j : Nat) (u : Value) : Obj.mapSeq (·.setIfInBounds j u) { cls := .type "list", data := .seq its.toArray n } = { cls := .type "list", data := .seq (its.set j u).toArray n } := by
  simp [Obj.mapSeq]
theorem Inv.lst {pins : List (Addr × Obj)} {σ : St} {H : Hp} {s : Shared} {p : Addr} {xs : List V} (I : Inv X pins σ H s) (h : H p = some (.lst xs)) :
    ∃ (its : List Value) (n : Nat), Vals xs its ∧ s.heap.get? p = some { cls := .type "list", data := .seq its.toArray n } ∧ xs.length ≤ sizeLine := by
  obtain ⟨z, its, n, r, e⟩ := I.hok p _ h
  exact ⟨its, n, r, e, z⟩
theorem Inv.lstUpd {pins : List (Addr × Obj)} {σ : St} {H : Hp} {s : Shared} {p : Addr} {xs ys : List V} {its its' : List Value} {n n' : Nat} {f : Obj → Obj} (I : Inv X pins σ H s) (h : H p = some (.lst xs))
    (ho : s.heap.get? p = some { cls := .type "list", data := .seq its.toArray n }) (hf : f { cls := .type "list", data := .seq its.toArray n } = { cls := .type "list", data := .seq its'.toArray n' }) (r : Vals ys its') (hz : ys.length ≤ sizeLine) (t : Nat) :
    Inv X pins σ (upd H p (.lst ys)) { s with heap := s.heap.update p f, toks := t } := by
  have e : (s.heap.update p f).get? p = some { cls := .type "list", data := .seq its'.toArray n' } := by
    rw [Heap.get?_update_self f ho (by rw [hf] <;> rfl), hf]
  refine I.write (x := p) (e := p) (by rw [h]; trivial) (.inl rfl) (fun b u hb q => (Heap.get?_update_other _ _ (Ne.symm hb)).trans q) ⟨_, e⟩ ?_
  exact ⟨hz, its', n', r, e⟩
inductive rSetL_r (o : V) (i : V) (v : V) (H : Hp) (Q : Hp → Prop) : Prop
  | mk : ∀ p xs k j, (o = .ref p) → (i = .int k) → (H p = some (.lst xs)) → (ixN xs.length k = some j) → (Q (upd H p (.lst (xs.set j v)))) → rSetL_r o i v H Q
noncomputable def rSetL : V → V → V → Hp → (Hp → Prop) → Prop := fun o i v H Q => rSetL_r o i v H Q
theorem set_list : PSet X rSetL := by
  intro pins s σ H o i v ov iv u Q I ro ri rv h
  obtain ⟨p, xs, k, j, rfl, rfl, hp, hj, q⟩ := h
  cases ro
  obtain ⟨t, rfl⟩ := ri
  obtain ⟨its, n, r, ho, hz⟩ := I.lst hp
  obtain ⟨h1, h2, h3, h4⟩ := ixN_seq hj
  have hl := r.length
  have hn := line63
  have I' : Inv X pins σ (upd H p (.lst (xs.set j v))) { s with heap := s.heap.update p (Obj.mapSeq (·.setIfInBounds j u)) } :=
    I.lstUpd hp ho (mapSeq_set its n j u) (r.set rv j) (by rw [List.length_set]; exact hz) s.toks
  by_cases h0 : 0 ≤ k
  · have hk : k.toNat = j := by
      rw [seqIndex_of h0 h4] at h1
      exact Option.some.inj h1
    exact PySem.W.ki_setAt ho h0 om (by rw [List.size_toArray, ← hl]; exact h4) (by rw [hk]; exact ⟨_, I', q⟩)
  · have hk : (k + (its.toArray.size : Int)).toNat = j := by
      rw [seqIndex_neg om h3] at h1
      rw [List.size_toArray, ← hl]
      exact Option.some.inj h1
    exact PySem.W.ki_setBack ho om (by rw [List.size_toArray, ← hl]; exact h3) om (by rw [hk]; exact ⟨_, I', q⟩)
theorem slice_bounds (lo hi : Option Int) (n : Nat) : (sliceBounds lo hi none n).1 = ((HT.sIx n 0 lo : Nat) : Int) ∧ (sliceBounds lo hi none n).2.1 = ((HT.sIx n n hi : Nat) : Int) ∧ (sliceBounds lo hi none n).2.2 = 1 := by
  refine ⟨?_, ?_, rfl⟩
  · cases lo with
    | none => simp [sliceBounds, HT.sIx]
    | some i =>
      simp only [sliceBounds, HT.sIx, Option.getD_none, show (1 : Int) > 0 by decide, if_true]
      by_cases h : i < 0
      · simp only [h, if_true] <;> (first | lia | omega)
      · simp only [h, if_false] <;> (first | lia | omega)
  · cases hi with
    | none => simp [sliceBounds, HT.sIx]
    | some i =>
      simp only [sliceBounds, HT.sIx, Option.getD_none, show (1 : Int) > 0 by decide, if_true]
      by_cases h : i < 0
      · simp only [h, if_true] <;> (first | lia | omega)
      · simp only [h, if_false] <;> (first | lia | omega)
theorem slicePick_cut (its : List Value) (lo hi : Option Int) : slicePick its.toArray lo hi none = ((its.drop (HT.sIx its.length 0 lo)).take (HT.sIx its.length its.length hi - HT.sIx its.length 0 lo)).toArray := by
  obtain ⟨h1, h2, h3⟩ := slice_bounds lo hi its.toArray.size
  unfold slicePick
  rw [h1, h2, h3]
  simp only [sliceRange_one, pick_run, List.size_toArray] <;> rfl
inductive rSlL_r (K : PySem.W.Frag) (x : V) (lo : Option Int) (hi : Option Int) (H : Hp) (Q : VK) : Prop
  | mk : ∀ a xs, (x = .ref a) → (SqL K H a xs) → (∀ p, H p = none → Q (.ref p) (upd H p (.lst (cutV xs lo hi)))) → rSlL_r K x lo hi H Q
noncomputable def rSlL (K : PySem.W.Frag) : V → Option Int → Option Int → Hp → VK → Prop := fun x lo hi H Q => rSlL_r K x lo hi H Q
theorem sl_list : SlR X (rSlL X.K) := by
  intro pins s σ H x v vl vu lo hi sl Q I rx hs pl pu h
  obtain ⟨a, xs, rfl, hx, q⟩ := h
  cases rx
  obtain ⟨its, r, ht, hz⟩ := I.list hx
  have hlen := r.length
  refine ⟨"list", _, slot_list_getitem.lookup, ht.isList.typeIs, ?_⟩
  refine wpAny_getItem_list_slice ht.isList hs pl pu .none (by simp) ?_ (by rw [List.size_toArray] <;> (first | lia | omega))
  rw [slicePick_cut, ← hlen]
  refine ⟨.ref s.heap.objs.size, _, I.laid (t' := s.toks) (o := .lst (cutV xs lo hi)) (fun b ob q => Heap.get?_push_of_some _ q) (Nat.le_refl _) ?_, rfl, q _ (I.hok.fresh (Nat.le_refl _))⟩
  exact ⟨Nat.le_trans (cutV_length xs lo hi) hz, _, 0, (r.drop (HT.sIx xs.length 0 lo)).take (HT.sIx xs.length xs.length hi - HT.sIx xs.length 0 lo), Heap.get?_push_size _ rfl⟩
noncomputable def flatV : V → Bool
  | .non => true
  | .bl _ => true
  | .int _ => true
  | .str _ => true
  | _ => false
noncomputable def eqV : V → V → Bool
  | .non, .non => true
  | .bl a, .bl b => a == b
  | .bl a, .int b => (if a then 1 else 0) == b
  | .int a, .bl b => a == (if b then 1 else 0)
  | .int a, .int b => a == b
  | .str a, .str b => a == b
  | _, _ => false
theorem eqAt_V {A : Around} {s : Shared} {y x : V} {u v : Value} (ry : RelV y u) (rx : RelV x v) (fy : flatV y = true) (fx : flatV x = true) : SeqAt.EqAt A s u v (eqV y x) := by
  cases y with
  | non =>
    cases ry
    cases x with
    | non => cases rx; exact SeqAt.EqAt.same _
    | bl b => cases rx; exact SeqAt.EqAt.none_bool b
    | int b => obtain ⟨t, rfl⟩ := rx; exact SeqAt.EqAt.none_int b t
    | str b => obtain ⟨t, rfl⟩ := rx; exact SeqAt.EqAt.none_str b t
    | _ => exact absurd (show false = true from fx) Bool.false_ne_true
  | bl a =>
    cases ry
    cases x with
    | non => cases rx; exact SeqAt.EqAt.bool_none a
    | bl b => cases rx; exact SeqAt.EqAt.bool_bool a b
    | int b => obtain ⟨t, rfl⟩ := rx; exact SeqAt.EqAt.bool_int a b t
    | str b => obtain ⟨t, rfl⟩ := rx; exact SeqAt.EqAt.bool_str a b t
    | _ => exact absurd (show false = true from fx) Bool.false_ne_true
  | int a =>
    obtain ⟨t', rfl⟩ := ry
    cases x with
    | non => cases rx; exact SeqAt.EqAt.int_none a t'
    | bl b => cases rx; exact SeqAt.EqAt.int_bool a t' b
    | int b => obtain ⟨t, rfl⟩ := rx; exact SeqAt.EqAt.int_int a t' b t
    | str b => obtain ⟨t, rfl⟩ := rx; exact SeqAt.EqAt.int_str a t' b t
    | _ => exact absurd (show false = true from fx) Bool.false_ne_true
  | str a =>
    obtain ⟨t', rfl⟩ := ry
    cases x with
    | non => cases rx; exact SeqAt.EqAt.str_none a t'
    | bl b => cases rx; exact SeqAt.EqAt.str_bool a t' b
    | int b => obtain ⟨t, rfl⟩ := rx; exact SeqAt.EqAt.str_int a t' b t
    | str b => obtain ⟨t, rfl⟩ := rx; exact SeqAt.EqAt.str_str a t' b t
    | _ => exact absurd (show false = true from fx) Bool.false_ne_true
  | _ => exact absurd (show false = true from fy) Bool.false_ne_true
noncomputable def eqU (x : V) (u : Value) : Bool := match u with
  | .none => eqV .non x
  | .bool b => eqV (.bl b) x
  | .int i _ => eqV (.int i) x
  | .str z _ => eqV (.str z) x
  | _ => false
theorem eqU_of {x y : V} {u : Value} (r : RelV y u) (f : flatV y = true) : eqU x u = eqV y x := by
  cases y with
  | non => cases r; rfl
  | bl b => cases r; rfl
  | int i => obtain ⟨t, rfl⟩ := r; rfl
  | str z => obtain ⟨t, rfl⟩ := r; rfl
  | _ => exact absurd (show false = true from f) Bool.false_ne_true
theorem any_eqU {x : V} {xs : List V} {us : List Value} (h : Vals xs us) (f : xs.all flatV = true) : us.any (eqU x) = xs.any fun y => eqV y x := by
  induction h with
  | nil => rfl
  | cons r t ih =>
    rw [List.all_cons, Bool.and_eq_true] at f
    rw [List.any_cons, List.any_cons, eqU_of r f.1, ih f.2]
theorem mem_eqAt {A : Around} {s : Shared} {x : V} {v : Value} (rx : RelV x v) (fx : flatV x = true) {xs : List V} {us : List Value} (h : Vals xs us) (f : xs.all flatV = true) : ∀ u ∈ us, SeqAt.EqAt A s u v (eqU x u) := by
  induction h with
  | nil => intro u hu; cases hu
  | cons r t ih =>
    intro u' hu
    rw [List.all_cons, Bool.and_eq_true] at f
    rcases List.mem_cons.mp hu with rfl | hu
    · rw [eqU_of r f.1]; exact eqAt_V r rx f.1 fx
    · exact ih f.2 u' hu
noncomputable def inV (x : V) (xs : List V) : Bool := xs.any fun y => eqV y x
inductive rIn_r (K : PySem.W.Frag) (neg : Bool) (x : V) (y : V) (H : Hp) (Q : VK) : Prop
  | mk : ∀ p xs, (y = .ref p) → ((SqL K H p xs ∨ SqT K H p xs)) → (flatV x = true) → (xs.all flatV = true) → (Q (.bl (if neg then !inV x xs else inV x xs)) H) → rIn_r K neg x y H Q
noncomputable def rIn (K : PySem.W.Frag) (neg : Bool) : R2 := fun x y H Q => rIn_r K neg x y H Q
theorem op_in_seq : OpR X (compareOp .In) (rIn X.K false) := by
  intro pins s σ H x y v u Q I rx ry h
  obtain ⟨p, xs, rfl, hq, fx, fs, q⟩ := h
  cases ry
  rcases hq with hq | hq
  · obtain ⟨its, r, pl, hz⟩ := I.list hq
    refine SeqAt.in_listAt (eqU x) pl.isList (fun w hw => mem_eqAt rx fx r fs w (by simpa using hw)) ⟨.bl _, H, I, rfl, ?_⟩
    rw [show its.toArray.any (eqU x) = its.any (eqU x) by simp, any_eqU r fs]
    exact q
  · obtain ⟨its, r, pl, hz⟩ := I.tuple hq
    refine SeqAt.in_tupleAt (eqU x) pl (fun w hw => mem_eqAt rx fx r fs w (by simpa using hw)) ⟨.bl _, H, I, rfl, ?_⟩
    rw [show its.toArray.any (eqU x) = its.any (eqU x) by simp, any_eqU r fs]
    exact q
inductive rc_1 (K : PySem.W.Frag) (xs : List V) (H : Hp) (Q : VK) : Prop
  | mk : ∀ p ys, (xs = [.ref p]) → ((SqL K H p ys ∨ SqT K H p ys)) → (Q (.int ys.length) H) → rc_1 K xs H Q
theorem call_len_seq : CallR X (.builtin "len") (rc_1 X.K) := by
  intro pins s σ H xs us Q I r h
  obtain ⟨p, ys, rfl, hq, q⟩ := h
  obtain ⟨u, rfl, rx⟩ := vals1 r
  cases rx
  have hn := line63
  rcases hq with hq | hq
  · obtain ⟨its, r', pl, hz⟩ := I.list hq
    have hlen := r'.length
    exact Calls.call_len_list pl.isList (by simp only [List.size_toArray] <;> (first | lia | omega)) ⟨.int ys.length, H, I.tok _, ⟨s.toks + 1, by rw [List.size_toArray, hlen]⟩, q⟩
  · obtain ⟨its, r', pl, hz⟩ := I.tuple hq
    have hlen := r'.length
    exact len_tuple pl (by simp only [List.size_toArray] <;> (first | lia | omega)) ⟨.int ys.length, H, I.tok _, ⟨s.toks + 1, by rw [List.size_toArray, hlen]⟩, q⟩
inductive rc_3 (K : PySem.W.Frag) (xs : List V) (H : Hp) (Q : VK) : Prop
  | mk : ∀ p ys, (xs = [.ref p]) → (((SqL K H p ys ∧ ∀ l, H l = none → Q (.ref l) (upd H l (.tup ys))) ∨ (SqT K H p ys ∧ Q (.ref p) H))) → rc_3 K xs H Q
theorem call_tuple_of : CallR X (.type "tuple") (rc_3 X.K) := by
  intro pins s σ H xs us Q I r h
  obtain ⟨p, ys, rfl, h⟩ := h
  obtain ⟨u, rfl, rx⟩ := vals1 r
  cases rx
  rcases h with ⟨hq, q⟩ | ⟨hq, q⟩
  · obtain ⟨its, r', pl, hz⟩ := I.list hq
    have hlen := r'.length
    refine call_tuple_list pl.isList (fun h' kp => ?_) (by simp only [List.size_toArray] <;> (first | lia | omega))
    have I1 : Inv X pins σ H { s with heap := h' } := I.kept (t' := s.toks) kp
    have I2 : Inv X pins σ (upd H h'.objs.size (.tup ys)) { s with heap := h'.push { cls := .type "tuple", data := .seq its.toArray } } :=
      I1.laid (t' := s.toks) (fun b o e => Heap.get?_push_of_some _ e) (Nat.le_refl _) (show ObjOk X.prog X.w _ _ _ (.tup ys) from ⟨⟨hz, _, Heap.get?_push_size _ rfl, rfl⟩, its, r', IsTup.new _ _⟩)
    exact ⟨.ref h'.objs.size, _, I2, rfl, q _ (I1.hok.fresh (Nat.le_refl _))⟩
  · obtain ⟨its, r', pl, hz⟩ := I.tuple hq
    exact call_tuple_same pl ⟨.ref p, H, I, rfl, q⟩
noncomputable def tyV (K : PySem.W.Frag) (T : String) (x : V) (H : Hp) : Prop := match x with
  | .str _ => T = "str"
  | .int _ => T = "int"
  | .ref p => (T = "list" ∧ ∃ xs, SqL K H p xs) ∨ (T = "tuple" ∧ ∃ o, K.lookup p = some o ∧ o.cls = .type "tuple" ∧ o.dict = none) ∨
      (T = "dict" ∧ ((∃ kvs, H p = some (.dK kvs)) ∨ ∃ kvs, H p = some (.dT kvs))) ∨ (T = "set" ∧ ∃ S n, H p = some (.set S n))
  | _ => False
theorem tyV_is {pins : List (Addr × Obj)} {σ : St} {H : Hp} {s : Shared} {T : String} {x : V} {v : Value} (I : Inv X pins σ H s) (r : RelV x v) (ty : tyV X.K T x H) :
    s.TypeIs v T ∧ ∀ a, v = .ref a → ∃ ob, s.heap.get? a = some ob ∧ ob.dict = none := by
  cases x with
  | str z =>
    obtain ⟨t, rfl⟩ := r
    cases (show T = "str" from ty)
    exact ⟨typeIs_str s z t, fun _ e => nomatch e⟩
  | int i =>
    obtain ⟨t, rfl⟩ := r
    cases (show T = "int" from ty)
    exact ⟨typeIs_int s i t, fun _ e => nomatch e⟩
  | ref p =>
    cases r
    rcases ty with ⟨rfl, xs, hq⟩ | ⟨rfl, o, hk, hc, hd⟩ | ⟨rfl, hk⟩ | ⟨rfl, S, n, hk⟩
    · obtain ⟨its, _, pl, -⟩ := I.list hq
      refine ⟨pl.isList.typeIs, fun a e => ?_⟩
      cases e
      obtain ⟨o, n, e, c, hd, -⟩ := pl
      exact ⟨o, e, hd⟩
    · refine ⟨⟨o, I.kIn p o hk, hc⟩, fun a e => ?_⟩
      cases e
      exact ⟨o, I.kIn _ o hk, hd⟩
    · have z : ∃ o, s.heap.get? p = some o ∧ o.ExactDict := by
        rcases hk with ⟨kvs, hk⟩ | ⟨kvs, hk⟩
        · obtain ⟨_, _, _, _, o, _, _, e, ex, -⟩ := I.hok p _ hk
          exact ⟨o, e, ex⟩
        · obtain ⟨_, _, _, _, o, _, _, e, ex, -⟩ := I.hok p _ hk
          exact ⟨o, e, ex⟩
      obtain ⟨o, e, ex⟩ := z
      refine ⟨⟨o, e, ex.1⟩, fun a e2 => ?_⟩
      cases e2
      exact ⟨o, e, ex.2.1⟩
    · obtain ⟨o, _, _, _, e, ex, -⟩ := I.hok p _ hk
      refine ⟨⟨o, e, ex.1⟩, fun a e2 => ?_⟩
      cases e2
      exact ⟨o, e, ex.2.1⟩
  | _ => exact False.elim ty
inductive tBM_r (K : PySem.W.Frag) (T : String) (r : V → List V → Hp → VK → Prop) (t : TA) (σ : St) (Q : VK) (x : V) (H1 : Hp) : Prop
  | mk : (tyV K T x H1) → (t σ H1 fun xs H2 => r x xs H2 Q) → tBM_r K T r t σ Q x H1
noncomputable def tBM (K : PySem.W.Frag) (T : String) (r : V → List V → Hp → VK → Prop) (to : TE) (t : TA) : TE := fun σ H Q => to σ H fun x H1 => tBM_r K T r t σ Q x H1
variable {o e : Expr} {es : List Expr} {to : TE} {t : TA} {name : Str} {apos cpos : Pos} {T id : String} {r : V → List V → Hp → VK → Prop}
theorem pe_bm (pa : PlainAttrs T) (slot : Slot T name id) (hty : typeOf (.builtin id) = pure (.type "method_descriptor")) (hm : MtR X id r) (ho : PE X o to) (ha : PA X (e :: es) t)
    (hbase : attributeBase o name X.env (eval o X.env) = eval o X.env := by rfl)
    (hfew : ((backTo cpos (starEach (e :: es) X.env)).all (fun x => !x.1) && (backToKw cpos (keywordEach [] X.env)).all (fun x => x.1.isSome)
      && decide ((e :: es).length + ([] : List Keyword).length + (if ([] : List Keyword).isEmpty then 0 else 1) < 30)) = true := by rfl)
    (hline : (apos.endLine == cpos.line) = true := by rfl) (hs : starEach (e :: es) X.env = (false, eval e X.env) :: starEach es X.env := by rfl) (hplain : (backTo cpos (starEach es X.env)).any (·.1) = false := by rfl) :
    PE X (.Call (.Attribute o name apos) (e :: es) [] cpos) (tBM X.K T r to t) := by
  intro pins s σ H Q I h
  refine wpAny_Call_method_late hbase hfew hline rfl (thnE (ho pins s σ H _ I h) ?_)
  rintro v s1 x H1 I1 r1 ⟨ty, q1⟩
  obtain ⟨h1, h2⟩ := tyV_is I1 r1 ty
  refine ⟨T, id, pa, slot, hty, h1, h2, ?_⟩
  have hA := ha cpos pins s1 σ H1 _ I1 q1
  rw [hs] at hA ⊢
  refine Calls.callWith_builtin (by show (false || (backTo cpos (starEach es X.env)).any (·.1)) = false; rw [hplain] <;> rfl) (Calls.evalArgs_plain ?_)
  exact thn hA fun us s2 ⟨vs, H2, I2, r2, q2⟩ => hm pins s2 σ H2 x vs v us Q I2 r1 r2 q2
end
end L2
namespace L2
open PySem PySem.Spec PyProof.Rows
noncomputable def MtM (X : Cx) (id : String) (r : V → List V → Hp → VK → Prop) : Prop :=
  ∀ (pins : List (Addr × Obj)) (s : Shared) (σ : St) (H : Hp) (x : V) (xs : List V) (v : Value) (us : List Value) (Q : VK), Inv X pins σ H s → RelV x v → Vals xs us → r x xs H Q →
    wpAny (model X.prog X.w) X.A (call (.builtin id) (v :: us)) (EP X pins σ Q) X.xe s
theorem Vals.one {x : V} {us : List Value} (h : Vals [x] us) : ∃ u, us = [u] ∧ RelV x u := by
  cases h with
  | cons r t =>
    cases t
    exact ⟨_, rfl, r⟩
theorem Vals.eraseIdx {xs : List V} {us : List Value} (i : Nat) (h : Vals xs us) : Vals (xs.eraseIdx i) (us.eraseIdx i) := by
  induction h generalizing i with
  | nil => exact .nil
  | cons r t ih =>
    cases i with
    | zero => exact t
    | succ i => exact .cons r (ih i)
theorem Vals.rep {xs : List V} {us : List Value} (h : Vals xs us) : ∀ k : Nat, Vals (List.replicate k xs).flatten (List.replicate k us).flatten
  | 0 => .nil
  | k + 1 => by
    rw [List.replicate_succ, List.replicate_succ, List.flatten_cons, List.flatten_cons]
    exact Vals.append h (Vals.rep h k)
theorem len_erase {α : Type} : ∀ (l : List α) (i : Nat), (l.eraseIdx i).length ≤ l.length
  | [], _ => Nat.le_refl _
  | _ :: _, 0 => Nat.le_succ _
  | _ :: r, i + 1 => Nat.succ_le_succ (len_erase r i)
theorem foldl_rep (its : List Value) : ∀ (k : Nat) (acc : List Value),
    List.foldl (fun x1 x2 => x1 ++ x2) acc.toArray (List.replicate k its.toArray) = (acc ++ (List.replicate k its).flatten).toArray
  | 0, acc => by simp
  | k + 1, acc => by
    have e : acc.toArray ++ its.toArray = (acc ++ its).toArray := by simp
    have e2 : (acc ++ its) ++ (List.replicate k its).flatten = acc ++ (List.replicate (k + 1) its).flatten := by
      rw [List.replicate_succ, List.flatten_cons, List.append_assoc]
    rw [← e2, ← foldl_rep its k (acc ++ its), ← e, List.replicate_succ, List.foldl_cons]
section
variable {X : Cx} {pins : List (Addr × Obj)} {σ : St} {H : Hp} {s : Shared} {l b : Addr} {xs ys zs : List V}
theorem Inv.lset {its its' : List Value} {n : Nat} {f : Array Value → Array Value} {t' : Nat} (I : Inv X pins σ H s) (hH : H l = some (.lst xs))
    (e : s.heap.get? l = some { cls := .type "list", data := .seq its.toArray n }) (hf : f its.toArray = its'.toArray) (hv : Vals ys its') (hz : ys.length ≤ sizeLine) :
    Inv X pins σ (upd H l (.lst ys)) { s with heap := s.heap.update l (Obj.mapSeq f), toks := t' } := by
  have q := PySem.IsL.update e f
  rw [hf] at q
  refine I.write (x := l) (e := l) (by rw [hH]; exact trivial) (.inl rfl) (fun b' u hb hu => (Heap.get?_update_other s.heap (Obj.mapSeq f) (Ne.symm hb)).trans hu) ⟨_, q⟩ ?_
  exact ⟨hz, its', _, hv, q⟩
theorem Inv.lnew {its : List Value} {t' : Nat} (I : Inv X pins σ H s) (hv : Vals ys its) (hz : ys.length ≤ sizeLine) :
    Inv X pins σ (upd H s.heap.objs.size (.lst ys)) { s with heap := s.heap.push { cls := .type "list", data := .seq its.toArray }, toks := t' } :=
  I.laid (fun _ _ q => Heap.get?_push_of_some _ q) (Nat.le_refl _) ⟨hz, its, 0, hv, Heap.get?_push_size _ rfl⟩
theorem Inv.fresh (I : Inv X pins σ H s) : H s.heap.objs.size = none := I.hok.fresh (Nat.le_refl _)
theorem Inv.lstM (I : Inv X pins σ H s) (hH : H l = some (.lst xs)) : xs.length ≤ sizeLine ∧ ∃ (its : List Value) (n : Nat), Vals xs its ∧ xs.length = its.length ∧ s.heap.get? l = some { cls := .type "list", data := .seq its.toArray n } := by
  obtain ⟨z, its, n, r, e⟩ := I.hok l _ hH
  exact ⟨z, its, n, r, r.length, e⟩
theorem notLongL {n : Nat} (h : n ≤ sizeLine) : Builtin.List.listTooLong n = false := by
  unfold Builtin.List.listTooLong
  exact decide_eq_false om
end
section
variable {X : Cx}
inductive rAppend_r (x : V) (vs : List V) (H : Hp) (Q : VK) : Prop
  | mk : ∀ l xs y, (x = .ref l) → (vs = [y]) → (H l = some (.lst xs)) → (xs.length < sizeLine) → (Q .non (upd H l (.lst (xs ++ [y])))) → rAppend_r x vs H Q
noncomputable def rAppend : V → List V → Hp → VK → Prop := fun x vs H Q => rAppend_r x vs H Q
theorem mt_append : MtM X "list.append" rAppend := by
  intro pins s σ H x vs v us Q I rx rv h
  obtain ⟨l, xs, y, rfl, rfl, hH, hz, q⟩ := h
  cases rx
  obtain ⟨u, rfl, ru⟩ := rv.one
  obtain ⟨z, its, n, r, hl, e⟩ := I.lstM hH
  refine call_meets F.slot_list_append ⟨_, e, rfl⟩ F.entry_list_append (F.args_list_append_2 _ _) (PySem.list_append l its.toArray n u (by rw [List.size_toArray]; (first | lia | omega))) ⟨e, ?_⟩
  refine ⟨.non, _, I.lset (its' := its ++ [u]) hH e (by simp) (r.append (.cons ru .nil)) ?_, rfl, q⟩
  rw [List.length_append, List.length_singleton]
  (first | lia | omega)
inductive rPopAt_r (x : V) (vs : List V) (H : Hp) (Q : VK) : Prop
  | mk : ∀ l xs i k y, (x = .ref l) → (vs = [.int i]) → (H l = some (.lst xs)) → (-(2 ^ 63) ≤ i) → (i < 2 ^ 63) → (seqIndex? i xs.length = some k) → (xs[k]? = some y) → (Q y (upd H l (.lst (xs.eraseIdx k)))) → rPopAt_r x vs H Q
noncomputable def rPopAt : V → List V → Hp → VK → Prop := fun x vs H Q => rPopAt_r x vs H Q
theorem mt_popAt : MtM X "list.pop" rPopAt := by
  intro pins s σ H x vs v us Q I rx rv h
  obtain ⟨l, xs, i, k, y, rfl, rfl, hH, h1, h2, hk, hy, q⟩ := h
  cases rx
  obtain ⟨u, rfl, ru⟩ := rv.one
  obtain ⟨t, rfl⟩ := ru
  obtain ⟨z, its, n, r, hl, e⟩ := I.lstM hH
  obtain ⟨w, hw, rw'⟩ := r.get hy
  refine call_meets F.slot_list_pop ⟨_, e, rfl⟩ F.entry_list_pop (F.args_list_pop_2 _ _)
    (MeetsSeq.list_pop_at l its.toArray n i t k w (fitsIndex_both h1 h2) (by rw [List.size_toArray, ← hl]; exact hk) (by rw [← Array.getElem?_toList]; exact hw) (by rw [List.size_toArray]; (first | lia | omega))) ⟨e, ?_⟩
  refine ⟨y, _, I.lset (its' := its.eraseIdx k) hH e ?_ (r.eraseIdx k) ?_, rw', q⟩
  · show its.toArray.eraseIdxIfInBounds k = (its.eraseIdx k).toArray
    rw [List.eraseIdxIfInBounds_toArray]
  · have := len_erase xs k
    (first | lia | omega)
inductive rRep_r (x : V) (y : V) (H : Hp) (Q : VK) : Prop
  | mk : ∀ l k xs, (x = .ref l) → (y = .int k) → (H l = some (.lst xs)) → (-(2 ^ 63) ≤ k) → (k < 2 ^ 63) → (xs.length * k.toNat ≤ sizeLine) → (∀ p, H p = none → Q (.ref p) (upd H p (.lst (List.replicate k.toNat xs).flatten))) → rRep_r x y H Q
noncomputable def rRep : R2 := fun x y H Q => rRep_r x y H Q
theorem len_rep {α : Type} (xs : List α) (k : Nat) : (List.replicate k xs).flatten.length = k * xs.length := by
  induction k with
  | zero => simp
  | succ k ih => rw [List.replicate_succ, List.flatten_cons, List.length_append, ih, Nat.succ_mul, Nat.add_comm]
theorem op_rep : OpR X (binaryOp .Mult) rRep := by
  intro pins s σ H x y v u Q I rx ry h
  obtain ⟨l, k, xs, rfl, rfl, hH, h1, h2, hz, q⟩ := h
  cases rx
  obtain ⟨t, rfl⟩ := ry
  obtain ⟨z, its, n, r, hl, e⟩ := I.lstM hH
  have hlen : its.toArray.size * k.toNat ≤ sizeLine := by rw [List.size_toArray, ← hl]; exact hz
  have hcap : ¬ its.toArray.size * k.toNat > (2 ^ 63 - 1) / 8 := by
    have : (sizeLine : Nat) ≤ (2 ^ 63 - 1) / 8 := by decide
    (first | lia | omega)
  have hfit : ¬ (!Builtin.List.listFitsIndex k) = true := by
    rw [fitsIndex_both h1 h2]
    exact Bool.false_ne_true
  have hlong : ¬ Builtin.List.listTooLong (its.toArray.size * k.toNat) = true := by
    rw [notLongL hlen]
    exact Bool.false_ne_true
  have hnew : List.foldl (fun x1 x2 => x1 ++ x2) #[] (List.replicate (if its.toArray.isEmpty = true then 0 else k.toNat) its.toArray) = (List.replicate k.toNat its).flatten.toArray := by
    have f0 : ∀ m : Nat, List.foldl (fun x1 x2 => x1 ++ x2) #[] (List.replicate m its.toArray) = (List.replicate m its).flatten.toArray := fun m => by
      have := foldl_rep its m []
      rw [List.nil_append] at this
      exact this
    rw [f0]
    cases its with
    | nil => simp
    | cons a r' => rw [if_neg (by simp)]
  refine wpAny_binaryOp_repeat_ref (T := "list") (U := "int") (by decide) ⟨_, e, rfl⟩ (fun s' => typeIs_int s' k t) noFill_list_mul F.fills_int_mul F.slot_int_rmul repeat_list F.slot_int_index.lookup
    (call_meets F.slot_int_rmul (typeIs_int s k t) F.entry_int_rmul (F.args_int_rmul_2 _ _) (int___rmul___int_list k t l its.toArray n)
      ⟨e, rfl, ⟨_, e, rfl⟩, call_meets F.slot_list_mul ⟨_, e, rfl⟩ F.entry_list_mul (F.args_list_mul_2 _ _) (AutoListH.list___mul___list_int_3 l its.toArray n k t hfit hcap hlong) ⟨e, ?_⟩⟩)
  rw [hnew]
  exact ⟨.ref _, _, I.lnew (t' := s.toks) (r.rep k.toNat) (by rw [len_rep, Nat.mul_comm]; exact hz), rfl, q _ I.fresh⟩
end
section
variable {prog : Program} {w : World} {A : Around} {E : Value → Shared → Prop} {s : Shared}
set_option maxRecDepth 100000 in
end
section
variable {X : Cx}
end
end L2
namespace Att
open PySem PySem.W PySem.Calls PyProof.Rows
theorem ints_of_wellAll {P : Params} {h : Heap} : ∀ (ns : List Int) (vs : List Value), WellAll P h vs (ns.map WData.int) → IntsAre vs ns := by
  intro ns
  induction ns with
  | nil =>
    intro vs w
    rw [List.map_nil] at w
    cases w
    exact .nil
  | cons n ns ih =>
    intro vs w
    rw [List.map_cons] at w
    cases w with
    | cons a b =>
      cases a
      exact .cons _ _ (ih _ b)
theorem script_of {l : OpenLaw} {n : Nat} (hn : l.most = some n) {P : Params} {h : Heap} {args : List WData} {vals : List Value}
    (hpre : l.row.toRowW.claim.pre args = true) (hwl : WellAll P h vals args) :
    ∃ a vs ns, vals = [Value.ref a] ∧ args = [WData.list (ns.map WData.int)] ∧ h.get? a = some { cls := .type "list", data := .seq vs.toArray } ∧ IntsAre vs ns ∧ ns.length ≤ n := by
  have hsh : WShape.hasAll [] args [.list .int] = true := (pre_splitW hpre).1
  have hc : l.pre.holds [] { args := args } = true := (pre_splitW hpre).2
  obtain ⟨d, r, rfl, h1, h2⟩ := hasAllW_cons hsh
  obtain rfl := hasAllW_nil h2
  obtain ⟨xs, rfl, h3⟩ := hasW_list h1
  obtain ⟨ns, rfl⟩ := items_int h3
  have hlen : ns.length ≤ n := by
    unfold OpenLaw.pre at hc
    have h4 : (WTm.not (.lt (.lit (.int (n : Int))) (.len (.arg 0)))).holds [] { args := [.list (ns.map .int)] } = true := by
      have h4 := (holds_andW hc).1
      rw [hn] at h4
      exact h4
    have h5 := condW_of h4 (w_not (w_lt w_lit (w_len_list (w_arg rfl))))
    rw [List.length_map] at h5
    refine Nat.le_of_not_lt fun q => ?_
    have q' : (n : Int) < ((ns.length : Nat) : Int) := by first | lia | omega
    first
      | (rw [decide_eq_true q'] at h5; exact absurd h5 (by decide))
      | (simp at h5; (first | lia | omega))
  cases hwl with
  | cons w1 w2 =>
    cases w2
    cases w1 with
    | list ho hall => exact ⟨_, _, ns, rfl, rfl, ho, ints_of_wellAll ns _ hall, hlen⟩
theorem post_true (l : OpenLaw) (args : List WData) : l.row.toRowW.claim.post args (.bool true) args = true :=
  postW_of (r := l.row.toRowW) (X := (true == true))
    (show WShape.has [] (.bool true) .bool = true by first | rfl | decide | simp [WShape.has, WShape.arms, WShape.armsAll])
    (show (WTm.eq .res (.lit (.bool true))).value [] { args := args, res := some (.bool true), after := args } = some (.bool (true == true)) from w_eq_bool (w_res rfl) w_lit) rfl
theorem attach_call {l : OpenLaw} {n : Nat} {q : Program} {loose : List Str} {XP : (Str → Option Value) → Heap → Prop} {YP : World → Heap → Prop} {d : DefRec}
    (hn : l.most = some n) (hdf : d.params.defaults = [])
    (call : ∀ (w : World) (s₀ s₁ : Shared) (mg mb : Str → Option Value) (fa : Addr) (o : Obj) (pm cd doc : Value) (a : Addr) (vs : List Value) (ns : List Int),
      Ground q loose [] XP w s₀ mg mb s₁.heap → YP w s₁.heap →
      s₁.heap.get? fa = some o → o.data = .func (docDef d.name d.params d.body d.scope pm cd doc) → s₁.heap.CodeRec cd d.name → mg d.name = some (.ref fa) →
      s₁.heap.get? a = some { cls := .type "list", data := .seq vs.toArray } → IntsAre vs ns → ns.length ≤ n → s₁.gens = #[] →
      codeAny (model l.prog w) callerA (.call (.ref fa) ⟨[.ref a], []⟩) (fun r s' => r = .ok (.ret (.bool true)) ∧ OldK s₁.heap s'.heap ∧ s'.os = s₁.os ∧ AllBare s'.gens) s₁) :
    WalkO q loose XP YP l.row.toRowW d [] (fun f vs => PySem.call f vs) := by
  intro w s₀ s₁ mg mb G Y fa o pm cd doc dV kV ho hd hcd hD hmg hg args vals as hpre hlay hrd hwl hlo
  obtain rfl : dV = .none := Dflts.none hD hdf
  obtain rfl : kV = .none := Dflts.noKw hD
  obtain ⟨a, vs, ns, rfl, rfl, hobj, hints, hlen⟩ := script_of hn hpre hwl
  refine enter_call (codeAny_mono (call w s₀ s₁ mg mb fa o pm cd doc a vs ns G Y ho (fd_plain hd) hcd hmg hobj hints hlen hg) fun r s' hq => ?_)
  obtain ⟨rfl, h2, h3, h4⟩ := hq
  exact ⟨.inl ⟨.bool true, .bool true, [], rfl, fun _ => rfl, .bool true, post_true l _, fun _ => ⟨List.Pairwise.nil, fun _ hm => (nomatch hm)⟩⟩, h2, h3, h4⟩
section
variable {prog : Program} {w : World} {A : Around} {E : Value → Shared → Prop} {s : Shared} {K : Frag}
end
end Att
namespace L2
open PySem PySem.Spec PyProof.Rows
theorem vals_ints {vs : List Value} {ns : List Int} (h : IntsAre vs ns) : Vals (ns.map V.int) vs := by
  induction h with
  | nil => exact .nil
  | cons n t _ ih => exact .cons ⟨t, rfl⟩ ih
end L2
namespace L2
open PySem PySem.Spec PyProof.Rows
end L2
namespace L2
open PySem PySem.Spec PyProof.Rows
noncomputable def defArgs (s : Stmt) : Arguments := match s with
  | .FunctionDef _ a _ _ _ _ _ _ _ _ => a
  | _ => { posonlyargs := [], args := [], vararg := none, kwonlyargs := [], kw_defaults := [], kwarg := none, defaults := [] }
noncomputable def defBody (s : Stmt) : List Stmt := match s with
  | .FunctionDef _ _ b _ _ _ _ _ _ _ => b
  | _ => []
noncomputable def defScope (s : Stmt) : Scope := match s with
  | .FunctionDef _ _ _ _ _ _ sc _ _ _ => sc
  | _ => { kind := .function, names := [], isGenerator := false, isCoroutine := false }
noncomputable abbrev CX0 : CXT := fun _ _ _ _ _ _ => False
noncomputable abbrev E0 : XK := fun _ _ _ => False
theorem pass0 {X : Cx} : Passes CX0 X E0 := fun _ _ _ _ _ _ _ h => h.elim
structure Fun (K : PySem.W.Frag) (x qual : Str) (st : Stmt) (f : Addr) (fd : FuncData) : Prop where
  ex : ∃ (oc : Value) (od : Option Addr) (kV doc pm : Value) (an : Option Addr) (cdv ct : Value) (osl : Array (Option Value)),
    fd = PySem.W.fnOf x qual (defArgs st) (defBody st) (defScope st) .none kV doc pm an cdv ct ∧ K.lookup f = some ⟨oc, od, .func fd, osl⟩ ∧ PySem.W.codeIn K cdv qual = true
  kp : PySem.W.keepIn K (.ref f) = true
section
variable {P : Program} {w : World} {K : PySem.W.Frag} {mg : Str → Option Value} {base : Heap}
theorem Fun.ok {x qual : Str} {st : Stmt} {f : Addr} {fd : FuncData} {N ps : List Str} {k : Nat} {sp : Sp} (F : Fun K x qual st f fd) (S : FnScope N ps (defScope st)) (len : ∀ vs H Q E, sp vs H Q E → vs.length = ps.length)
    (hbody : ∀ (cdv : Value) (A : Around) (outer : List Env) (s : Shared) (H : Hp) (vs : List V) (Q : VK) (E : XK), Room k (A.deeper (envOfC qual (defScope st) s.heap.objs.size f cdv)) → sp vs H Q E →
      ∃ t, PSs (cxOf CX0 P w K mg base N qual (defScope st) f cdv A outer s H E).nox (defBody st) t ∧ t { nx := fun _ H' => Q .non H', rt := Q } (start N vs) H) : FnOk P w K mg base CX0 (k + 1) f fd ps sp := by
  obtain ⟨oc, od, kV, doc, pm, an, cdv, ct, osl, rfl, lk, hcd⟩ := F.ex
  refine fn_of lk hcd S len fun A outer s H vs Q E hr hsp => ?_
  obtain ⟨t, h, q⟩ := hbody cdv A outer s H vs Q E hr hsp
  exact ⟨t, h.nox, q⟩
theorem Fun.binds {x qual : Str} {st : Stmt} {f : Addr} {fd : FuncData} {ps : List Str} (F : Fun K x qual st f fd)
    (h : ∀ (kV doc pm : Value) (an : Option Addr) (cdv ct : Value) (us : List Value), us.length = ps.length → bindArgs (PySem.W.fnOf x qual (defArgs st) (defBody st) (defScope st) .none kV doc pm an cdv ct) ⟨us, []⟩ = pure (ps.zip us)) : Binds K fd ps [] := by
  obtain ⟨oc, od, kV, doc, pm, an, cdv, ct, osl, rfl, lk, hcd⟩ := F.ex
  exact .all (h kV doc pm an cdv ct)
theorem fun_mk {x qual : Str} {st : Stmt} {f : Addr} {oc : Value} {od an : Option Addr} {osl : Array (Option Value)} {kV doc pm cdv ct : Value} (l : K.lookup f = some ⟨oc, od, .func (PySem.W.fnOf x qual (defArgs st) (defBody st) (defScope st) .none kV doc pm an cdv ct), osl⟩)
    (c : PySem.W.codeIn K cdv qual = true) (k : PySem.W.keepIn K (.ref f) = true) : Fun K x qual st f (PySem.W.fnOf x qual (defArgs st) (defBody st) (defScope st) .none kV doc pm an cdv ct) := ⟨⟨oc, od, kV, doc, pm, an, cdv, ct, osl, rfl, l, c⟩, k⟩
end
theorem hu_of {A : Around} {k : Nat} (hr : Room k A) : A.units + 1 < cLine := Nat.lt_of_le_of_lt (Nat.add_le_add_left (by decide : 1 ≤ 64) _) hr.units
section
variable {X : Cx}
theorem pv (i : Nat) {x : Str} {pos : Pos} (hN : X.N[i]? = some x := by rfl) (hv : Vis X.env.scope x := by first | exact Or.inl rfl | exact Or.inr (Or.inl rfl) | exact Or.inr (Or.inr rfl)) (hd : (x == ("__debug__" : Str)) = false := by decide)
    (hcd : (x == ("__classdict__" : Str)) = false := by decide) : PE X (.Name x pos) (tVar i) := pe_var hN hv hd hcd
end
theorem iteF {A B : Prop} (h : B) : if false = true then A else B := by
  rw [if_neg Bool.false_ne_true]
  exact h
theorem iteT {A B : Prop} (h : A) : if true = true then A else B := by
  rw [if_pos rfl]
  exact h
theorem ite2 {c A B : Prop} [Decidable c] (h1 : c → A) (h2 : ¬ c → B) : if c then A else B := by
  by_cases h : c
  · rw [if_pos h]
    exact h1 h
  · rw [if_neg h]
    exact h2 h
theorem iteNS {c A B : Prop} [Decidable c] (hc : c) (h : B) : if (!decide c) = true then A else B := by
  rw [decide_eq_true hc]
  exact iteF h
noncomputable def Same (H H' : Hp) : Prop := ∀ b o, H b = some o → H' b = some o
theorem Same.refl (H : Hp) : Same H H := fun _ _ h => h
theorem Same.trans {H H1 H2 : Hp} (a : Same H H1) (b : Same H1 H2) : Same H H2 := fun c o h => b c o (a c o h)
end L2
namespace L2
open PySem PySem.Spec PyProof.Rows
section
variable {κ : Type} [DecidableEq κ]
theorem valV_not {kvs : List (κ × V)} {k : κ} (h : valV kvs k = none) : ¬ k ∈ kvs.map (·.1) := by
  intro m
  obtain ⟨p, hp, e⟩ := List.mem_map.mp m
  have q : (kvs.any fun kv => decide (kv.1 = k)) = true := List.any_eq_true.mpr ⟨p, hp, decide_eq_true e⟩
  rw [valV_any, h] at q
  exact absurd q (by simp)
theorem valV_in {kvs : List (κ × V)} {k : κ} {v : V} (h : valV kvs k = some v) : k ∈ kvs.map (·.1) := by
  have q : (kvs.any fun kv => decide (kv.1 = k)) = true := by
    rw [valV_any, h]
    all_goals rfl
  obtain ⟨p, hp, e⟩ := List.any_eq_true.mp q
  exact List.mem_map.mpr ⟨p, hp, of_decide_eq_true e⟩
theorem nd_snoc : ∀ {l : List κ} {k : κ}, l.Nodup → ¬ k ∈ l → (l ++ [k]).Nodup
  | [], k, _, _ => by simp
  | a :: r, k, h, hk => by
    obtain ⟨h1, h2⟩ := List.nodup_cons.mp h
    show (a :: (r ++ [k])).Nodup
    refine List.nodup_cons.mpr ⟨fun m => ?_, nd_snoc h2 fun m => hk (List.mem_cons.mpr (Or.inr m))⟩
    rcases List.mem_append.mp m with q | q
    · exact h1 q
    · exact hk (List.mem_cons.mpr (Or.inl (List.mem_singleton.mp q).symm))
theorem nd_putK {kvs : List (κ × V)} {k : κ} (v : V) (hn : (kvs.map (·.1)).Nodup) (h : valV kvs k = none) : ((putK kvs k v).map (·.1)).Nodup := by
  rw [putK_new v h, List.map_append]
  exact nd_snoc hn (valV_not h)
theorem dropK_pos {p : κ × V} {r : List (κ × V)} {k : κ} (e : p.1 = k) : dropK (p :: r) k = dropK r k := by
  unfold dropK
  rw [List.filter_cons, if_neg (by simp [e])]
theorem dropK_neg {p : κ × V} {r : List (κ × V)} {k : κ} (e : ¬ p.1 = k) : dropK (p :: r) k = p :: dropK r k := by
  unfold dropK
  rw [List.filter_cons, if_pos (by simp [e])]
theorem dropK_mem {kvs : List (κ × V)} {k : κ} {p : κ × V} (h : p ∈ dropK kvs k) : p ∈ kvs := (List.mem_filter.mp h).1
theorem nd_dropK : ∀ {kvs : List (κ × V)} {k : κ}, (kvs.map (·.1)).Nodup → ((dropK kvs k).map (·.1)).Nodup
  | [], _, _ => List.nodup_nil
  | p :: r, k, h => by
    have h : (p.1 :: r.map (·.1)).Nodup := h
    obtain ⟨h1, h2⟩ := List.nodup_cons.mp h
    by_cases e : p.1 = k
    · rw [dropK_pos e]
      exact nd_dropK h2
    · rw [dropK_neg e]
      show (p.1 :: (dropK r k).map (·.1)).Nodup
      refine List.nodup_cons.mpr ⟨fun m => h1 ?_, nd_dropK h2⟩
      obtain ⟨q, hq, eq⟩ := List.mem_map.mp m
      exact List.mem_map.mpr ⟨q, dropK_mem hq, eq⟩
end
end L2
namespace L2
open PySem PySem.Spec PyProof.Rows
section
variable {X : Cx}
end
end L2
set_option Elab.async false
set_option linter.all false
set_option maxRecDepth 100000
set_option maxHeartbeats 4000000
namespace L2
open PySem PySem.Spec PyProof.Rows
theorem compLoop_gen {prog : Program} {w : World} {A : Around} {R : Result → Shared → Prop} {s : Shared} {elt target iter : Expr} {ifs : List Expr} {scope : Scope} {pos : Pos} {it acc : Value} {env : Env} (I : Nat → Shared → Prop)
    (turn : ∀ n s, I n s → wpAny (model prog w) A (pyNext it) (fun r s₁ => match r with
      | none => R (.ok .next) s₁
      | some v => wpAny (model prog w) A (letOwnedTupleGo target it v) (fun _ s₁' => wpAny (model prog w) A (assign target env v) (fun _ s₂ =>
          wpAny (model prog w) A (forIn ifs true fun c r => if r = true then do let ok ← isTrue c env (eval c env); pure (ForInStep.yield ok) else pure (ForInStep.yield r)) (fun ok s₃ =>
            if ok = true then wpAny (model prog w) A (eval elt env) (fun x s₄ =>
              wpAny (model prog w) A (call (.builtin "list.append") [acc, x]) (fun _ s₅ => ∃ m, m < n ∧ I m s₅) (fun _ _ => False) s₄) (fun _ _ => False) s₃
            else ∃ m, m < n ∧ I m s₃) (fun _ _ => False) s₂) (fun _ _ => False) s₁') (fun _ _ => False) s₁) (fun _ _ => False) s)
    (n : Nat) (h : I n s) : codeAny (model prog w) A (.compLoop (.ListComp elt [⟨target, iter, ifs, 0⟩] scope pos) 0 it acc env) R s := by
  refine codeAny_loop rfl I (fun n s hI => ?_) n h
  show wpAny _ A ((compTurn (.ListComp elt [⟨target, iter, ifs, 0⟩] scope pos) 0 it acc env).onRaise (fun x => do noteFrame x env; theTreesLotGoes x)) _ _ s
  refine wpAny_noted ?_
  rw [compTurn_list]
  refine wpAny_bind (wpAny_standAt (wpAny_bind (wpAny_mono (turn n s hI) (fun r s₁ h₁ => ?_) fun _ _ h' => h'.elim)))
  cases r with
  | none => exact wpAny_pure h₁
  | some v =>
    refine wpAny_bind (wpAny_mono h₁ (fun _ s₁' h₁' => ?_) fun _ _ h' => h'.elim)
    refine wpAny_bind (wpAny_mono h₁' (fun _ s₂ h₂ => wpAny_bind (wpAny_mono h₂ (fun ok s₃ h₃ => ?_) fun _ _ h' => h'.elim)) fun _ _ h' => h'.elim)
    cases ok with
    | false => exact wpAny_pure ⟨rfl, h₃⟩
    | true =>
      exact wpAny_bind (wpAny_bind (wpAny_mono h₃ (fun x s₄ h₄ => wpAny_bind (wpAny_mono h₄ (fun _ s₅ h₅ => wpAny_pure (wpAny_pure ⟨rfl, h₅⟩)) fun _ _ h' => h'.elim)) fun _ _ h' => h'.elim))
noncomputable def PTs (X : Cx) (ifs : List Expr) (t : TT) : Prop :=
  ∀ (pins : List (Addr × Obj)) (s : Shared) (σ : St) (H : Hp) (Q : Bool → Hp → Prop), Inv X pins σ H s → t σ H Q →
    wpAny (model X.prog X.w) X.A (forIn ifs true fun c r => if r = true then do let ok ← isTrue c X.env (eval c X.env); pure (ForInStep.yield ok) else pure (ForInStep.yield r)) (TP X pins σ Q) X.xe s
noncomputable def tYes : TT := fun _ H Q => Q true H
theorem tyes {σ : St} {H : Hp} {A B : Hp → Prop} (h : A H) : tYes σ H (fun b H3 => if b = true then A H3 else B H3) := by
  show (if true = true then A H else B H)
  exact iteT h
theorem pts_nil {X : Cx} : PTs X [] tYes := fun _ _ _ H _ I h => wpAny_tests_nil ⟨H, I, h⟩
theorem pts_one {X : Cx} {c : Expr} {t : TT} (h : PT X c t) : PTs X [c] t := fun pins s σ H Q I q => wpAny_tests_one (h pins s σ H Q I q)
noncomputable def clOf (cells : List (Str × Addr)) : List (Str × NameKind) → List (Str × Addr) → List (Str × Addr)
  | [], acc => acc
  | (n, k) :: r, acc => if (k == .free) = true then (match cells.lookup n with | some c => clOf cells r ((n, c) :: acc) | none => clOf cells r acc) else clOf cells r acc
theorem clOf_sub {cells : List (Str × Addr)} {x : Str} {c : Addr} : ∀ (names : List (Str × NameKind)) (acc : List (Str × Addr)), (clOf cells names acc).lookup x = some c → acc.lookup x = some c ∨ cells.lookup x = some c
  | [], acc, h => .inl h
  | (n, k) :: r, acc, h => by
    unfold clOf at h
    split at h
    · cases hc : cells.lookup n with
      | none => rw [hc] at h; exact clOf_sub r acc h
      | some c' =>
        rw [hc] at h
        rcases clOf_sub r _ h with q | q
        · rw [List.lookup_cons] at q
          cases hx : x == n with
          | true =>
            rw [hx] at q
            have e : x = n := by simpa using hx
            have e2 : c' = c := by simpa using q
            rw [e, hc, e2]
            exact .inr rfl
          | false => rw [hx] at q; exact .inl q
        · exact .inr q
    · exact clOf_sub r acc h
theorem clOf_acc {cells : List (Str × Addr)} {x : Str} : ∀ (names : List (Str × NameKind)) (acc : List (Str × Addr)), (∃ c, acc.lookup x = some c) → ∃ c, (clOf cells names acc).lookup x = some c
  | [], acc, h => h
  | (n, k) :: r, acc, h => by
    unfold clOf
    split
    · cases hc : cells.lookup n with
      | none => exact clOf_acc r acc h
      | some c' =>
        refine clOf_acc r _ ?_
        rw [List.lookup_cons]
        cases hx : x == n with
        | true => exact ⟨c', rfl⟩
        | false => exact h
    · exact clOf_acc r acc h
theorem clOf_has {cells : List (Str × Addr)} {x : Str} (hx : ∃ c, cells.lookup x = some c) : ∀ (names : List (Str × NameKind)) (acc : List (Str × Addr)), (x, NameKind.free) ∈ names → ∃ c, (clOf cells names acc).lookup x = some c
  | [], acc, h => by simp at h
  | (n, k) :: r, acc, h => by
    rcases List.mem_cons.mp h with e | h
    · cases e
      obtain ⟨c, hc⟩ := hx
      unfold clOf
      rw [if_pos (by rfl), hc]
      exact clOf_acc r _ ⟨c, by rw [List.lookup_cons]; simp⟩
    · unfold clOf
      split
      · cases hc : cells.lookup n with
        | none => exact clOf_has hx r acc h
        | some c' => exact clOf_has hx r _ h
      · exact clOf_has hx r acc h
theorem closure_go {env : Env} : ∀ (names : List (Str × NameKind)) (acc : List (Str × Addr)), (∀ y ∈ names, y.2 = .free → ∃ c, env.cells.lookup y.1 = some c) →
    (forIn names acc fun (x : Str × NameKind) (cs : List (Str × Addr)) => (if (x.2 == .free) = true then (do let a ← cellOf env x.1; pure (ForInStep.yield ((x.1, a) :: cs))) else pure (ForInStep.yield cs) : Sem (ForInStep (List (Str × Addr))))) = pure (clOf env.cells names acc)
  | [], acc, _ => rfl
  | (n, k) :: r, acc, h => by
    rw [List.forIn_cons]
    have hr : ∀ y ∈ r, y.2 = .free → ∃ c, env.cells.lookup y.1 = some c := fun y hy => h y (List.mem_cons_of_mem _ hy)
    unfold clOf
    cases hk : (k == NameKind.free) with
    | true =>
      obtain ⟨c, hc⟩ := h (n, k) List.mem_cons_self (by simpa using hk)
      simp only [hk, if_true, cellOf, hc, pure_bind]
      exact closure_go r _ hr
    | false =>
      simp only [hk, Bool.false_eq_true, if_false, pure_bind]
      exact closure_go r _ hr
theorem closureFor_eq {scope : Scope} {env : Env} (h : ∀ y ∈ scope.names, y.2 = .free → ∃ c, env.cells.lookup y.1 = some c) : closureFor scope env = pure (clOf env.cells scope.names []) := by
  have e := closure_go scope.names [] h
  simp only [closureFor]
  simp only [bind_pure]
  exact e
theorem lookup_relabel {env : Env} {x : Str} : ∀ (names : List (Str × NameKind)),
    (names.map fun (n, k) => if (k == NameKind.free && env.scope.kind == .function && env.kindOf n == some .cell) then (n, NameKind.cell) else (n, k)).lookup x =
      (names.lookup x).map fun k => if (k == NameKind.free && env.scope.kind == .function && env.kindOf x == some .cell) = true then NameKind.cell else k
  | [] => rfl
  | (n, k) :: r => by
    have ih := lookup_relabel (env := env) (x := x) r
    rw [List.map_cons]
    show List.lookup x ((if (k == NameKind.free && env.scope.kind == .function && env.kindOf n == some .cell) = true then (n, NameKind.cell) else (n, k)) :: _) = _
    by_cases c : (k == NameKind.free && env.scope.kind == .function && env.kindOf n == some .cell) = true
    · rw [if_pos c, List.lookup_cons, List.lookup_cons]
      cases hx : x == n with
      | true =>
        have e : x = n := by simpa using hx
        subst e
        show some NameKind.cell = Option.map _ (some k)
        rw [Option.map_some, if_pos c]
      | false => exact ih
    · rw [if_neg c, List.lookup_cons, List.lookup_cons]
      cases hx : x == n with
      | true =>
        have e : x = n := by simpa using hx
        subst e
        show some k = Option.map _ (some k)
        rw [Option.map_some, if_neg c]
      | false => exact ih
noncomputable def cxComp (X : Cx) (pl : List (Addr × Obj)) (N' : List Str) (scope : Scope) (fp : List Addr) (s3 : Shared) (H3 : Hp) : Cx where
  prog := X.prog
  w := X.w
  K := X.K
  mg := X.mg
  base := X.base
  A := X.A
  N := N'
  s₀ := s3
  H₀ := H3
  env := compEnvC scope (clOf X.env.cells scope.names []) s3.heap.objs.size X.env
  outer := X.stack
  stack := X.stack
  ex := fp
  fn := fun _ => false
  calm := X.calm
  pn := pl
  xe := fun _ _ => False
noncomputable def CapOk (X : Cx) (scope : Scope) : List Str → List Nat → Prop
  | [], [] => True
  | x :: cn, j :: ci => X.N[j]? = some x ∧ X.env.kindOf x = some .cell ∧ scope.names.lookup x = some .free ∧ CapOk X scope cn ci
  | _, _ => False
theorem CapOk.get {X : Cx} {scope : Scope} : ∀ {cn : List Str} {ci : List Nat} {k : Nat} {x : Str}, CapOk X scope cn ci → cn[k]? = some x → ∃ j, ci[k]? = some j ∧ X.N[j]? = some x ∧ X.env.kindOf x = some .cell ∧ scope.names.lookup x = some .free
  | [], _, _, _, _, h => by simp at h
  | _ :: _, [], _, _, c, _ => c.elim
  | y :: cn, j :: ci, 0, x, c, h => by
    obtain ⟨a, b, b', -⟩ := c
    have e : y = x := by simpa using h
    subst e
    exact ⟨j, rfl, a, b, b'⟩
  | y :: cn, j :: ci, k + 1, x, c, h => by
    obtain ⟨j', h1, h2⟩ := CapOk.get (k := k) c.2.2.2 (by simpa using h)
    exact ⟨j', by simpa using h1, h2⟩
structure CompSc (X : Cx) (scope : Scope) : Prop where
  kind : scope.kind = .function
  nocell : ∀ y ∈ scope.names, y.2 ≠ .cell
  names : ∀ y ∈ scope.names, y.2 = .local → scope.names.lookup y.1 = some .local
  free : ∀ y ∈ scope.names, y.2 = .free → X.env.kindOf y.1 = some .cell
section
variable {X : Cx} {pins : List (Addr × Obj)} {σ : St} {H3 : Hp} {s3 : Shared} {scope : Scope} {fp : List Addr} {N' own cn : List Str} {ci : List Nat} {cv : List V}
theorem comp_has (ok : X.Ok) (S : CompSc X scope) {x : Str} (h : (relabel scope X.env).names.lookup x = some .cell ∨ (relabel scope X.env).names.lookup x = some .free) :
    ∃ c, (clOf X.env.cells scope.names []).lookup x = some c := by
  have e : (relabel scope X.env).names.lookup x = (scope.names.lookup x).map fun k => if (k == NameKind.free && X.env.scope.kind == .function && X.env.kindOf x == some .cell) = true then NameKind.cell else k := lookup_relabel scope.names
  have hf : scope.names.lookup x = some .free := by
    cases q : scope.names.lookup x with
    | none => rw [e, q] at h; simp at h
    | some k =>
      by_cases hk : k = .free
      · rw [hk]
      · have hb : (k == NameKind.free) = false := by simpa using hk
        rw [e, q] at h
        simp only [Option.map_some, hb, Bool.false_and, Bool.false_eq_true, if_false, Option.some.injEq] at h
        rcases h with h | h
        · exact absurd h (S.nocell _ (PySem.mem_of_lookup q))
        · exact absurd h hk
  exact clOf_has (ok.has x (.inl (S.free _ (PySem.mem_of_lookup hf) rfl))) scope.names [] (PySem.mem_of_lookup hf)
theorem comp_cl {x : Str} {c : Addr} (h : (clOf X.env.cells scope.names []).lookup x = some c) : X.env.cells.lookup x = some c := by
  rcases clOf_sub _ _ h with q | q
  · simp at q
  · exact q
theorem comp_ok (I : Inv X pins σ H3 s3) (S : CompSc X scope) (f : ∀ b ∈ fp, FpOk X pins H3 b) (fz : ∀ b ∈ fp, b < s3.heap.objs.size) : (cxComp X (X.pn ++ pins) N' scope fp s3 H3).Ok where
  mod := I.ok.mod
  kind := S.kind
  glob := I.ok.glob
  blt := I.ok.blt
  above := Nat.le_refl _
  inj := fun x y c h1 h2 => I.ok.inj x y c (comp_cl h1) (comp_cl h2)
  has := fun x h => comp_has I.ok S h
  cab := fun x c h => by cases h
  hd := I.ok.hd
  frames := I.ok.frames
  stk := .inl rfl
  exf := fun b hb => ⟨Nat.ne_of_lt (fz b hb), fun x c h => (f b hb).2.2.2.2.1 x c (comp_cl h)⟩
  bs := I.bs
  bsz := Nat.le_trans I.ok.bsz I.sz
  noex := fun b o e hb => by
    rcases (f b hb).2.2.2.1 with z | z
    · exact I.ok.noex b o e z
    · exact absurd (Nat.lt_of_lt_of_le (Heap.lt_size e) (Nat.le_trans I.ok.bsz z)) (Nat.lt_irrefl _)
  exfs := fun b hb z => by
    rcases List.mem_cons.mp (I.stkSub b z) with q | q
    · exact (f b hb).2.1 q
    · exact (f b hb).2.2.1 q
  funs := I.stack
  frf := I.stkFree
theorem comp_inv {h1 : Heap} {t : Nat} (I : Inv X pins σ H3 s3) (S : CompSc X scope) (f : ∀ b ∈ fp, FpOk X pins H3 b) (fz : ∀ b ∈ fp, b < s3.heap.objs.size)
    (hN : N' = own ++ cn) (hc : CapOk X scope cn ci) (hv : ci.map (fun j => σ[j]?) = cv.map fun v => some (some v)) (hl : cn.length = ci.length)
    (hns : h1.Ns s3.heap.objs.size (fun _ => none)) (hk : ∀ b o, s3.heap.get? b = some o → h1.get? b = some o) :
    Inv (cxComp X (X.pn ++ pins) N' scope fp s3 H3) [] (List.replicate own.length none ++ cv.map some) H3 { s3 with heap := h1, toks := t } := by
  have lenv : cv.length = ci.length := by
    have := congrArg List.length hv
    simpa using this.symm
  refine ⟨comp_ok I S f fz, rfl, I.bare, Un.kept hk, ⟨_, hns, fun i x v e1 e2 e3 => ?_⟩, fun x c e => ?_, I.hok.fresh (Nat.le_refl _), fun x c e => I.freeC x c (comp_cl e), fun p hp => ?_, I.hok.kept hk, ?_⟩
  · -- a captured name
    have hi : own.length ≤ i := by
      by_cases hi : own.length ≤ i
      · exact hi
      · rw [List.getElem?_append_left (by simpa using hi), List.getElem?_replicate] at e2
        split at e2 <;> cases e2
    rw [List.getElem?_append_right (by simpa using hi), List.length_replicate, List.getElem?_map] at e2
    have e1' : (own ++ cn)[i]? = some x := by rw [← hN]; exact e1
    rw [List.getElem?_append_right hi] at e1'
    obtain ⟨j, hj, hNj, hkx, hfr⟩ := hc.get e1'
    have hcv : cv[i - own.length]? = some v := by
      cases q : cv[i - own.length]? with
      | none => rw [q] at e2; cases e2
      | some v' => rw [q] at e2; cases e2; rfl
    have hσ : σ[j]? = some (some v) := by
      have := congrArg (fun l : List (Option (Option V)) => l[i - own.length]?) hv
      simp only [List.getElem?_map, hj, hcv, Option.map_some, Option.some.injEq] at this
      exact this
    obtain ⟨m, _, hl'⟩ := I.loc
    obtain ⟨u, r, q⟩ := hl' j x v hNj hσ (.inr (.inl hkx))
    have hkd : (relabel scope X.env).names.lookup x = some .cell ∨ (relabel scope X.env).names.lookup x = some .free := by
      have e : (relabel scope X.env).names.lookup x = (scope.names.lookup x).map fun k => if (k == NameKind.free && X.env.scope.kind == .function && X.env.kindOf x == some .cell) = true then NameKind.cell else k := lookup_relabel scope.names
      rw [e, hfr, Option.map_some]
      by_cases cc : (NameKind.free == NameKind.free && X.env.scope.kind == .function && X.env.kindOf x == some .cell) = true
      · rw [if_pos cc]; exact .inl rfl
      · rw [if_neg cc]; exact .inr rfl
    obtain ⟨c', hc'⟩ := comp_has I.ok S hkd
    refine ⟨u, r, .inr ⟨hkd, c', hc', ?_⟩⟩
    rcases q with ⟨z, _⟩ | ⟨_, c, hcc, o, ho, hd⟩
    · rw [hkx] at z; cases z
    · have e : c = c' := Option.some.inj (hcc.symm.trans (comp_cl hc'))
      subst e
      exact ⟨o, hk c o ho, hd⟩
  · obtain ⟨v, o, ho, hd⟩ := I.cell x c (comp_cl e)
    exact ⟨v, o, hk c o ho, hd⟩
  · have hp' : p ∈ X.pn ++ pins := by rw [List.append_nil] at hp; exact hp
    obtain ⟨e, n, ne, nf, d⟩ := I.pin p hp'
    refine ⟨hk _ _ e, n, Nat.ne_of_lt (Heap.lt_size e), fun z => ?_, d⟩
    rcases List.mem_cons.mp (I.stkSub p.1 z) with q | q
    · exact ne q
    · exact nf q
  · show (List.replicate own.length none ++ cv.map some).length = N'.length
    rw [hN, List.length_append, List.length_append, List.length_replicate, List.length_map, lenv, hl]
noncomputable def CompRd (J : It) (own : Nat) (cv : List V) (g : TG) (ti : TT) (te : TE) (D : Addr) (H1 : Hp) (Q : VK) : Prop := ∃ W : Nat → Nat → List V → Hp → Prop, (∃ m, W 0 m [] (upd H1 D (.lst []))) ∧ ∀ i m ys H, W i m ys H →
    (J.stop i H ∧ Q (.ref D) H) ∨ (J.go i H ∧ ys.length < sizeLine ∧ ∃ N : List V → Hp → Prop, (∀ ys' H', N ys' H' → ∃ m', m' < m ∧ W (i + 1) m' ys' H') ∧
      ∀ x H', J.yld i H x H' → g x (List.replicate own none ++ cv.map some) H' fun σ2 H2 => (σ2.length = own + cv.length ∧ σ2.drop own = cv.map some) ∧
        ti σ2 H2 fun b H3 => if b = true then te σ2 H3 fun y H4 => H4 D = some (.lst ys) ∧ N (ys ++ [y]) (upd H4 D (.lst (ys ++ [y]))) else N ys H3)
inductive tComp_r (own : Nat) (ci : List Nat) (g : TG) (ti : TT) (te : TE) (σ : St) (Q : VK) (J : It) (H1 : Hp) : Prop
  | mk : ∀ cv : List V, (ci.map (fun j => σ[j]?) = cv.map (fun v => some (some v))) → (∀ D, H1 D = none → CompRd J own cv g ti te D H1 Q) → tComp_r own ci g ti te σ Q J H1
noncomputable def tComp (own : Nat) (ci : List Nat) (wi : TI) (g : TG) (ti : TT) (te : TE) : TE := fun σ H Q => wi σ H fun J H1 => tComp_r own ci g ti te σ Q J H1
theorem comp_rest {X X' : Cx} {pins : List (Addr × Obj)} {σ : St} {elt target iter : Expr} {ifs : List Expr} {pos : Pos} {scope : Scope} {own : List Str} {cv : List V} {g : TG} {ti : TT} {te : TE} {use : Option (Value → Sem Unit)} {Q0 : Value → Shared → Prop} {Q : VK} {ENV : Env} {it D0 : Addr} {fp : List Addr} {tn : Nat → Heap → Prop} {J : It} {H2 : Hp} {s3 : Shared} {h4 : Heap} {tk : Nat}
    (T : Turn X.prog X.w X.K target J fp it tn) (hD : CompRd J own.length cv g ti te D0 H2 Q) (I3' : Inv X pins σ (upd H2 D0 (.lst [])) s3) (f2 : ∀ b ∈ fp, FpOk X pins (upd H2 D0 (.lst [])) b)
    (I4 : Inv X' [] (List.replicate own.length none ++ cv.map some) (upd H2 D0 (.lst [])) { s3 with heap := h4, toks := tk }) (st4 : tn 0 h4) (hg' : PG X' target g) (ht' : PTs X' ifs ti) (he' : PE X' elt te)
    (ePr : X'.prog = X.prog) (eW : X'.w = X.w) (eK : X'.K = X.K) (eA : X'.A = X.A) (eE : X'.env = ENV) (eL : ENV.locals = s3.heap.objs.size) (eXe : X'.xe = fun _ _ => False) (eC : X'.calm = true) (eex : X'.ex = fp) (epn : X'.pn = X.pn ++ pins) (es0 : X'.s₀ = s3) (eH0 : X'.H₀ = upd H2 D0 (.lst [])) (efs : X'.fs = frs X.stack)
    (fin : ∀ (D C : Addr) (H5 : Hp) (s6 : Shared) (m6 : Str → Option Value), Inv X pins σ H5 s6 → s6.heap.Ns C m6 → H5 C = none → C ≠ X.env.locals → X.s₀.heap.objs.size ≤ C → (∀ x c, X.env.cells.lookup x = some c → c ≠ C) →
      (∀ p ∈ X.pn ++ pins, p.1 ≠ C) → Q (.ref D) H5 → compPost (model X.prog X.w) X.A X.xe use Q0 (.ref D) C (.ok .next) s6) :
    codeAny (model X.prog X.w) X.A (.compLoop (.ListComp elt [⟨target, iter, ifs, 0⟩] scope pos) 0 (.ref it) (.ref D0) ENV) (compPost (model X.prog X.w) X.A X.xe use Q0 (.ref D0) s3.heap.objs.size) { s3 with heap := h4, toks := tk } := by
  obtain ⟨W, ⟨m0, w0⟩, turn⟩ := hD
  have ok' := I4.ok
  have stat : ∀ {H' : Hp}, (∀ b ∈ fp, H' b = none) → ∀ b ∈ fp, FpOk X' [] H' b := fun hn b hb => by
    have hb' : b ∈ X'.ex := by rw [eex]; exact hb
    refine ⟨hn b hb, (ok'.exf b hb').1, ok'.exfs b hb', .inl hb', (ok'.exf b hb').2, fun p hp => ?_⟩
    rw [epn, List.append_nil] at hp
    exact (f2 b hb).2.2.2.2.2 p hp
  have wk : ∀ (σ2 : St), (σ2.length = own.length + cv.length ∧ σ2.drop own.length = cv.map some) → ∀ {pl : List (Addr × Obj)} {H' : Hp} {s' : Shared}, Inv X' pl σ2 H' s' → Inv X' pl (List.replicate own.length none ++ cv.map some) H' s' := fun σ2 hq pl H' s' I' => by
    refine I'.weak (by rw [hq.1, List.length_append, List.length_replicate, List.length_map]) fun i v hi => ?_
    by_cases hlt : i < own.length
    · rw [List.getElem?_append_left (by simpa using hlt), List.getElem?_replicate] at hi
      split at hi <;> cases hi
    · rw [List.getElem?_append_right (by simpa using hlt), List.length_replicate, ← hq.2, List.getElem?_drop] at hi
      rw [show own.length + (i - own.length) = i by first | lia | omega] at hi
      exact hi
  refine compLoop_gen (fun n s' => ∃ i ys H', Inv X' [] (List.replicate own.length none ++ cv.map some) H' s' ∧ tn i s'.heap ∧ (∀ b ∈ fp, H' b = none) ∧ W i n ys H') ?_ m0
    ⟨0, [], _, I4, st4, fun b hb => (f2 b hb).1, w0⟩
  rintro n s5 ⟨i, ys, H5, I5, st5, fr5, w5⟩
  rcases turn i n ys H5 w5 with ⟨stop, qn⟩ | ⟨go, hsz, N, hN, step⟩
  · have d := T.done X' ePr eW eK eC i [] s5 _ H5 (fun _ _ => False) I5 (stat fr5) st5 stop
    rw [eA] at d
    refine thn d ?_
    rintro r s6 ⟨hr, I6⟩
    subst hr
    obtain ⟨m6, hn6, -⟩ := I6.loc
    rw [eE, eL] at hn6
    have hn6' : s6.heap.Ns s3.heap.objs.size m6 := hn6
    have un6 : Un (frs X.stack) fp (upd H2 D0 (.lst [])) H5 s3.heap s6.heap := by
      have b6 := I6.base
      rw [efs, eex, eH0, es0] at b6
      exact b6
    have os6 : s6.os = s3.os := by have o6 := I6.os; rw [es0] at o6; exact o6
    have hok6 : HOk X.prog X.w H5 s6.heap := by have o6 := I6.hok; rw [ePr, eW] at o6; exact o6
    have I7 : Inv X pins σ H5 s6 := I3'.call' (ch := fp) os6 un6 hok6 I6.bare fun b hb => ⟨(f2 b hb).2.2.2.1, (f2 b hb).2.1, (f2 b hb).2.2.2.2.1, (f2 b hb).2.2.2.2.2⟩
    have fr6 : H5 s3.heap.objs.size = none := by
      have q := I6.free
      rw [eE, eL] at q
      exact q
    refine fin D0 s3.heap.objs.size H5 s6 m6 I7 hn6' fr6 (Nat.ne_of_gt I3'.lt) I3'.sz (fun x c e => ?_) (fun p hp => ?_) qn
    · obtain ⟨_, o, ho, -⟩ := I3'.cell x c e
      exact Nat.ne_of_lt (Heap.lt_size ho)
    · exact Nat.ne_of_lt (Heap.lt_size (I3'.pin p hp).1)
  · have d := T.item X' ePr eW eK eC i [] s5 _ H5 (fun _ _ => False) I5 (stat fr5) st5 go
    rw [eA] at d
    refine thn d ?_
    rintro r s6 ⟨u, hr, h6⟩
    subst hr
    refine thn h6 ?_
    rintro _ s7 ⟨x, H7, I7, r7, y7, st7, fr7⟩
    have I7' := I7.pinned (stat fr7) (T.obj _ _ st7)
    have g7 := hg' _ s7 _ H7 x u _ I7' r7 (step x H7 y7)
    rw [ePr, eW, eA, eE, eXe] at g7
    refine thn g7 ?_
    rintro _ s8 ⟨σ8, H8, I8, q8, ti8⟩
    have t8 := ht' _ s8 σ8 H8 _ I8 ti8
    rw [ePr, eW, eA, eE, eXe] at t8
    refine thn t8 ?_
    rintro ok s9 ⟨H9, I9, q9⟩
    have again : ∀ {ys' : List V} {H' : Hp} {s' : Shared}, Inv X' ([] ++ pinsAt fp s7.heap) σ8 H' s' → N ys' H' →
        ∃ m, m < n ∧ ∃ i ys H', Inv X' [] (List.replicate own.length none ++ cv.map some) H' s' ∧ tn i s'.heap ∧ (∀ b ∈ fp, H' b = none) ∧ W i m ys H' := fun {ys' H' s'} I' n' => by
      obtain ⟨m', hm, w'⟩ := hN ys' H' n'
      refine ⟨m', hm, i + 1, ys', H', (wk σ8 q8 I').unpinned, T.keep _ _ _ st7 fun b hb o e => (I'.pin (b, o) (List.mem_append_right _ (List.mem_append_right _ (mem_pinsAt hb e)))).1, fun b hb => ?_, w'⟩
      obtain ⟨o, e, -⟩ := T.obj _ _ st7 b hb
      exact (I'.pin (b, o) (List.mem_append_right _ (List.mem_append_right _ (mem_pinsAt hb e)))).2.1
    cases ok with
    | false => exact again I9 q9
    | true =>
      have e9 := he' _ s9 σ8 H9 _ I9 q9
      rw [ePr, eW, eA, eE, eXe] at e9
      refine thn e9 ?_
      rintro u10 s10 ⟨y, H10, I10, r10, hD10, n10⟩
      have a10 := mt_append (X := X') _ s10 σ8 H10 (.ref D0) [y] (.ref D0) [u10] (fun _ H' => N (ys ++ [y]) H') I10 rfl (.cons r10 .nil) ⟨_, _, _, rfl, rfl, hD10, hsz, n10⟩
      rw [ePr, eW, eA, eXe] at a10
      exact thn a10 fun _ s11 ⟨_, H11, I11, _, n11⟩ => again I11 n11
theorem comp_core {elt target iter : Expr} {ifs : List Expr} {pos cpos : Pos} {wi : TI} {g : TG} {ti : TT} {te : TE} {use : Option (Value → Sem Unit)} {Q0 : Value → Shared → Prop} {s : Shared} {H : Hp} {Q : VK} (hcalm : X.calm = true) (S : CompSc X scope) (hc : CapOk X scope cn ci) (hl : cn.length = ci.length)
    (hi : PI X target iter wi) (hg : ∀ pl fp s3 H3, PG (cxComp X pl (own ++ cn) scope fp s3 H3) target g) (ht : ∀ pl fp s3 H3, PTs (cxComp X pl (own ++ cn) scope fp s3 H3) ifs ti)
    (he : ∀ pl fp s3 H3, PE (cxComp X pl (own ++ cn) scope fp s3 H3) elt te) (hs : ∀ x, foldedSetIterable iter X.env x = pure x) (I : Inv X pins σ H s) (h : tComp own.length ci wi g ti te σ H Q)
    (fin : ∀ (D C : Addr) (H5 : Hp) (s6 : Shared) (m6 : Str → Option Value), Inv X pins σ H5 s6 → s6.heap.Ns C m6 → H5 C = none → C ≠ X.env.locals → X.s₀.heap.objs.size ≤ C → (∀ x c, X.env.cells.lookup x = some c → c ≠ C) →
      (∀ p ∈ X.pn ++ pins, p.1 ≠ C) → Q (.ref D) H5 → compPost (model X.prog X.w) X.A X.xe use Q0 (.ref D) C (.ok .next) s6) :
    wpAny (model X.prog X.w) X.A (comprehension (.ListComp elt [⟨target, iter, ifs, 0⟩] scope pos) scope X.env cpos (newList []) false (eval iter X.env) use) Q0 X.xe s := by
  have hcl : closureFor scope X.env = pure (clOf X.env.cells scope.names []) := closureFor_eq fun y hy hf => I.ok.has y.1 (.inl (S.free y hy hf))
  refine wpAny_comprehension_free (use := use) rfl hs hcl S.kind S.names ?_
  refine thn (hi pins s σ H _ I h) fun v s1 h1 => thn h1 fun itv s2 h2 => ?_
  obtain ⟨it, fp, tn, J, H2, e, I2, T, st2, f2, cv, hv, hD⟩ := h2
  subst e
  have lenv : cv.length = ci.length := by
    have := congrArg List.length hv
    simpa using this.symm
  have I3 := I2.lnew (ys := []) (its := []) (t' := s2.toks) .nil (Nat.zero_le _)
  have hD' := hD s2.heap.objs.size I2.fresh
  have fz : ∀ b ∈ fp, b < s2.heap.objs.size := fun b hb => by
    obtain ⟨o, ho, -⟩ := T.obj _ _ st2 b hb
    exact Heap.lt_size ho
  refine wpAny_newObj_type ?_
  refine wpAny_newFunctionEnv S.nocell (by intro y hy; simp at hy) (fun h4 hns4 hsb4 => ?_) S.kind
  generalize hs3 : ({ s2 with heap := s2.heap.push { cls := .type "list", dict := none, data := .seq ([] : List Value).toArray } } : Shared) = s3 at hns4 hsb4 ⊢
  have I3' : Inv X pins σ (upd H2 s2.heap.objs.size (.lst [])) s3 := by rw [← hs3]; exact I3
  have hsz3 : s3.heap.objs.size = s2.heap.objs.size + 1 := by rw [← hs3]; exact Heap.size_push ..
  have k23 : ∀ b o, s2.heap.get? b = some o → s3.heap.get? b = some o := fun b o e => by rw [← hs3]; exact Heap.get?_push_of_some _ e
  have k34 : ∀ b o, s3.heap.get? b = some o → h4.get? b = some o := fun b o e => hsb4.extBut b o (Nat.ne_of_lt (Heap.lt_size e)) (Heap.get?_push_of_some _ e)
  have nD : ∀ b ∈ fp, b ≠ s2.heap.objs.size := fun b hb => Nat.ne_of_lt (fz b hb)
  have f3 : ∀ b ∈ fp, FpOk X pins (upd H2 s2.heap.objs.size (.lst [])) b := fun b hb => ⟨by rw [upd_ne (nD b hb)]; exact (f2 b hb).1, (f2 b hb).2⟩
  have fz3 : ∀ b ∈ fp, b < s3.heap.objs.size := fun b hb => by rw [hsz3]; exact Nat.lt_succ_of_lt (fz b hb)
  have I4 : Inv (cxComp X (X.pn ++ pins) (own ++ cn) scope fp s3 (upd H2 s2.heap.objs.size (.lst []))) [] (List.replicate own.length none ++ cv.map some) (upd H2 s2.heap.objs.size (.lst [])) { s3 with heap := h4, toks := s3.toks + ([] : List (Str × Value)).length } :=
    comp_inv I3' S f3 fz3 rfl hc hv hl hns4 k34
  have st4 : tn 0 h4 := T.keep _ _ _ st2 fun b hb o e => k34 b o (k23 b o e)
  have loop := comp_rest (own := own) (use := use) (Q0 := Q0) (pos := pos) (iter := iter) (scope := scope) (X' := cxComp X (X.pn ++ pins) (own ++ cn) scope fp s3 (upd H2 s2.heap.objs.size (.lst []))) T hD' I3' f3 I4 st4 (hg _ _ _ _) (ht _ _ _ _) (he _ _ _ _) rfl rfl rfl rfl rfl rfl rfl hcalm rfl rfl rfl rfl rfl fin
  exact codeAny_compStart_list loop (T.self X.A 0 _ _ _ st4 loop)
theorem pe_comp {elt target iter : Expr} {ifs : List Expr} {pos : Pos} {wi : TI} {g : TG} {ti : TT} {te : TE} (hcalm : X.calm = true) (S : CompSc X scope) (hc : CapOk X scope cn ci) (hl : cn.length = ci.length)
    (hi : PI X target iter wi) (hg : ∀ pl fp s3 H3, PG (cxComp X pl (own ++ cn) scope fp s3 H3) target g) (ht : ∀ pl fp s3 H3, PTs (cxComp X pl (own ++ cn) scope fp s3 H3) ifs ti)
    (he : ∀ pl fp s3 H3, PE (cxComp X pl (own ++ cn) scope fp s3 H3) elt te) (hs : ∀ x, foldedSetIterable iter X.env x = pure x := by intro _; rfl) :
    PE X (.ListComp elt [⟨target, iter, ifs, 0⟩] scope pos) (tComp own.length ci wi g ti te) := by
  intro pins s σ H Q I h
  rw [eval_ListComp]
  exact comp_core hcalm S hc hl hi hg ht he hs I h fun D C H5 s6 m6 I7 hn fr nL ge nC nP q => ⟨m6, hn, fun h' hs' => ⟨.ref D, H5, I7.turned (t' := s6.toks) (it := C) (fun b o hb e => hs'.extBut b o hb e) fr nL (.inr ge) nC nP, rfl, q⟩⟩
theorem ps_setC {elt target iter : Expr} {ifs : List Expr} {pos pos' cpos : Pos} {wi : TI} {g : TG} {ti : TT} {te : TE} {i : Nat} {x : Str} (hN : X.N.Nodup) (hix : X.N[i]? = some x) (hx : Loc X.env.scope x) (hcalm : X.calm = true) (S : CompSc X scope) (hc : CapOk X scope cn ci) (hl : cn.length = ci.length)
    (hi : PI X target iter wi) (hg : ∀ pl fp s3 H3, PG (cxComp X pl (own ++ cn) scope fp s3 H3) target g) (ht : ∀ pl fp s3 H3, PTs (cxComp X pl (own ++ cn) scope fp s3 H3) ifs ti)
    (he : ∀ pl fp s3 H3, PE (cxComp X pl (own ++ cn) scope fp s3 H3) elt te) (hs : ∀ x, foldedSetIterable iter X.env x = pure x := by intro _; rfl)
    (hsw : swapsWith (.ListComp elt [⟨target, iter, ifs, 0⟩] scope cpos) (some (.Name x pos')) pos.line X.env = pure true := by rfl)
    (hf : X.fn x = true ∨ X.env.scope.names.lookup x = some .local := by first | exact .inl rfl | exact .inr rfl | assumption) :
    PS X (.Assign [.Name x pos'] (.ListComp elt [⟨target, iter, ifs, 0⟩] scope cpos) pos) (tAsg (tComp own.length ci wi g ti te) (gName i)) := by
  intro pins s σ H D I h
  rw [exec_Assign_Name_used _ _ _ _ hsw]
  refine wpAny_bind (wpAny_standAt (wpAny_bind ?_))
  show wpAny _ X.A (do let _ ← comprehension (.ListComp elt [⟨target, iter, ifs, 0⟩] scope cpos) scope X.env _ (newList []) false (eval iter X.env) (some (assign (.Name x pos') X.env))) _ _ s
  refine wpAny_bind (wpAny_mono (comp_core (use := some (assign (.Name x pos') X.env)) (Q0 := fun _ s' => SP X pins D .next s') hcalm S hc hl hi hg ht he hs I h (fun D' C H5 s6 m6 I7 hn fr nL ge nC nP q => ?_)) (fun _ s' hq => wpAny_pure (wpAny_pure hq)) fun _ _ e => e)
  obtain ⟨oC, es, ep, hoC, hd, r1⟩ := hn
  have nf : C ∉ X.fs := fun hb => by
    obtain ⟨_, o, ho, -⟩ := I7.ok.funs.mem hb
    exact absurd (Nat.lt_of_lt_of_le (Heap.lt_size ho) ge) (Nat.lt_irrefl _)
  have I7' : Inv X (pins ++ [(C, oC)]) σ H5 s6 := I7.pins_of fun p hp => by
    rcases List.mem_append.mp hp with z | z
    · exact I7.pin p (List.mem_append_right _ z)
    · rw [List.mem_singleton.mp z]
      exact ⟨hoC, fr, nL, nf, fun v e => by rw [hd] at e; cases e⟩
  show wpAny _ X.A (assign (.Name x pos') X.env (.ref D')) _ _ s6
  refine wpAny_assign_Name (store_ok I7' hN hix hx (show RelV (.ref D') (.ref D') from rfl) (fun s' I' => ?_) hf)
  have hC' := (I'.pin (C, oC) (List.mem_append_right _ (List.mem_append_right _ (List.mem_singleton.mpr rfl)))).1
  refine ⟨m6, ⟨oC, es, ep, hC', hd, r1⟩, fun h' hs' => ⟨_, H5, ?_, q⟩⟩
  have I2 : Inv X pins (σ.set i (some (.ref D'))) H5 s' := I'.pins_of fun p hp => I'.pin p (List.mem_append_right _ (List.mem_append_left _ hp))
  exact I2.turned (t' := s'.toks) (it := C) (fun b o hb e => hs'.extBut b o hb e) fr nL (.inr ge) nC nP
end
noncomputable def cscOk (outer inner : Scope) : Bool := inner.names.all fun y => (y.2 != .cell) && (y.2 != .local || inner.names.lookup y.1 == some .local) && (y.2 != .free || outer.names.lookup y.1 == some .cell)
theorem csc {X : Cx} {scope : Scope} (hk : scope.kind = .function) (h : cscOk X.env.scope scope = true) : CompSc X scope := by
  have a := List.all_eq_true.mp h
  refine ⟨hk, fun y hy e => ?_, fun y hy e => ?_, fun y hy e => ?_⟩
  · have := a y hy
    rw [e] at this
    simp at this
  · have := a y hy
    rw [e] at this
    simpa using this
  · have := a y hy
    rw [e] at this
    have h2 : X.env.scope.names.lookup y.1 = some .cell := by simpa using this
    exact h2
theorem nd_of {l : List Str} (h : decide l.Nodup = true) : l.Nodup := of_decide_eq_true h
section
variable {X : Cx} {pl : List (Addr × Obj)} {N' : List Str} {sc : Scope} {fp : List Addr} {s3 : Shared} {H3 : Hp}
theorem ix_tupC : IxR (cxComp X pl N' sc fp s3 H3) (rIxT X.K) := ix_tup
theorem ix_listC : IxR (cxComp X pl N' sc fp s3 H3) (rIxL X.K) := ix_list
theorem pg_tupC {es : List Expr} {k : Nat} {t : TGs} {n : Nat} {pos : Pos} (hc : X.calm = true) (h : PGs (cxComp X pl N' sc fp s3 H3) es t)
    (hn : (assignEach es (cxComp X pl N' sc fp s3 H3).env).length = n := by rfl) (hst : (assignEach es (cxComp X pl N' sc fp s3 H3).env).findIdx? (·.1) = none := by rfl) : PG (cxComp X pl N' sc fp s3 H3) (.Tuple es k pos) (gTup X.K n t) := pg_tup hc h hn hst
end
theorem comp_list {K : PySem.W.Frag} {a : Addr} {xs : List V} {own : Nat} {g : TG} {ti : TT} {te : TE} {cv : List V} {D : Addr} {H1 : Hp} {Q : VK} (Pv : Nat → List V → Hp → Prop) (h0 : Pv 0 [] (upd H1 D (.lst []))) (hl : ∀ i ys H, Pv i ys H → SqL K H a xs) (hz : ∀ i ys H, Pv i ys H → ys.length < sizeLine)
    (hs : ∀ i x ys H, xs[i]? = some x → Pv i ys H → g x (List.replicate own none ++ cv.map some) H fun σ2 H2 => (σ2.length = own + cv.length ∧ σ2.drop own = cv.map some) ∧
      ti σ2 H2 fun b H3 => if b = true then te σ2 H3 fun y H4 => H4 D = some (.lst ys) ∧ Pv (i + 1) (ys ++ [y]) (upd H4 D (.lst (ys ++ [y]))) else Pv (i + 1) ys H3)
    (hd : ∀ ys H, Pv xs.length ys H → Q (.ref D) H) :
    CompRd (Itl K a) own cv g ti te D H1 Q := by
  refine ⟨fun i m ys H => m = xs.length - i ∧ i ≤ xs.length ∧ Pv i ys H, ⟨xs.length, rfl, Nat.zero_le _, h0⟩, ?_⟩
  rintro i m ys H ⟨rfl, hi, p⟩
  have q := hl i ys H p
  by_cases hlt : i < xs.length
  · refine .inr ⟨⟨xs, xs[i], q, by simp [hlt]⟩, hz i ys H p, Pv (i + 1), fun ys' H' p' => ⟨xs.length - (i + 1), om, rfl, hlt, p'⟩, fun x H' y => ?_⟩
    obtain ⟨e, y⟩ := y
    subst e
    exact hs i x ys _ (y xs q) p
  · have e : i = xs.length := by first | lia | omega
    subst e
    exact .inl ⟨⟨xs, q, Nat.le_refl _⟩, hd ys H p⟩
theorem comp_tup {K : PySem.W.Frag} {a : Addr} {xs : List V} {own : Nat} {g : TG} {ti : TT} {te : TE} {cv : List V} {D : Addr} {H1 : Hp} {Q : VK} (Pv : Nat → List V → Hp → Prop) (h0 : Pv 0 [] (upd H1 D (.lst []))) (hl : ∀ i ys H, Pv i ys H → SqT K H a xs) (hz : ∀ i ys H, Pv i ys H → ys.length < sizeLine)
    (hs : ∀ i x ys H, xs[i]? = some x → Pv i ys H → g x (List.replicate own none ++ cv.map some) H fun σ2 H2 => (σ2.length = own + cv.length ∧ σ2.drop own = cv.map some) ∧
      ti σ2 H2 fun b H3 => if b = true then te σ2 H3 fun y H4 => H4 D = some (.lst ys) ∧ Pv (i + 1) (ys ++ [y]) (upd H4 D (.lst (ys ++ [y]))) else Pv (i + 1) ys H3)
    (hd : ∀ ys H, Pv xs.length ys H → Q (.ref D) H) :
    CompRd (Itt K a) own cv g ti te D H1 Q := by
  refine ⟨fun i m ys H => m = xs.length - i ∧ i ≤ xs.length ∧ Pv i ys H, ⟨xs.length, rfl, Nat.zero_le _, h0⟩, ?_⟩
  rintro i m ys H ⟨rfl, hi, p⟩
  have q := hl i ys H p
  by_cases hlt : i < xs.length
  · refine .inr ⟨⟨xs, xs[i], q, by simp [hlt]⟩, hz i ys H p, Pv (i + 1), fun ys' H' p' => ⟨xs.length - (i + 1), om, rfl, hlt, p'⟩, fun x H' y => ?_⟩
    obtain ⟨e, y⟩ := y
    subst e
    exact hs i x ys _ (y xs q) p
  · have e : i = xs.length := by first | lia | omega
    subst e
    exact .inl ⟨⟨xs, q, Nat.le_refl _⟩, hd ys H p⟩
theorem comp_range {lo : Int} {n own : Nat} {g : TG} {ti : TT} {te : TE} {cv : List V} {D : Addr} {H1 : Hp} {Q : VK} (Pv : Nat → List V → Hp → Prop) (h0 : Pv 0 [] (upd H1 D (.lst []))) (hz : ∀ i ys H, Pv i ys H → ys.length < sizeLine)
    (hs : ∀ i ys H, i < n → Pv i ys H → g (.int (lo + i)) (List.replicate own none ++ cv.map some) H fun σ2 H2 => (σ2.length = own + cv.length ∧ σ2.drop own = cv.map some) ∧
      ti σ2 H2 fun b H3 => if b = true then te σ2 H3 fun y H4 => H4 D = some (.lst ys) ∧ Pv (i + 1) (ys ++ [y]) (upd H4 D (.lst (ys ++ [y]))) else Pv (i + 1) ys H3)
    (hd : ∀ ys H, Pv n ys H → Q (.ref D) H) :
    CompRd (Itr lo n) own cv g ti te D H1 Q := by
  refine ⟨fun i m ys H => m = n - i ∧ i ≤ n ∧ Pv i ys H, ⟨n, rfl, Nat.zero_le _, h0⟩, ?_⟩
  rintro i m ys H ⟨rfl, hi, p⟩
  by_cases hlt : i < n
  · refine .inr ⟨hlt, hz i ys H p, Pv (i + 1), fun ys' H' p' => ⟨n - (i + 1), om, rfl, hlt, p'⟩, fun x H' y => ?_⟩
    obtain ⟨e, y⟩ := y
    subst e
    subst y
    exact hs i ys _ hlt p
  · have e : i = n := by first | lia | omega
    subst e
    exact .inl ⟨Nat.le_refl _, hd ys H p⟩
end L2
namespace SortT
open PySem.W PyProof.Rows
noncomputable def ev {α : Type} (lt : Nat → Nat → Bool) : KasT α → α
  | .ret a => a
  | .ask i j k => ev lt (k (lt i j))
theorem ev_bind {α β : Type} (lt : Nat → Nat → Bool) (f : α → KasT β) : ∀ t : KasT α, ev lt (t.bind f) = ev lt (f (ev lt t))
  | .ret _ => rfl
  | .ask i j k => ev_bind lt f (k (lt i j))
section
variable {O : KeyOrd} {key : Nat → O.α}
noncomputable def kk (key : Nat → O.α) (p : Array Nat) (i : Nat) : O.α := key (p.getD i 0)
noncomputable def Sr (key : Nat → O.α) (p : Array Nat) (n : Nat) : Prop := ∀ i j, i ≤ j → j < n → O.kle (kk key p i) (kk key p j)
noncomputable def Fl (key : Nat → O.α) (p : Array Nat) (n : Nat) : Prop := ∀ i j, i ≤ j → j < n → O.kle (kk key p j) (kk key p i)
theorem kk_congr {p q : Array Nat} {i j : Nat} (h : p[i]? = q[j]?) : kk key p i = kk key q j := by
  unfold kk; rw [Array.getD_eq_getD_getElem?, Array.getD_eq_getD_getElem?, h]
theorem kk_rev {p : Array Nat} {i j : Nat} (hj : j ≤ p.size) (k : Nat) : kk key (kas_rev p i j) k = if i ≤ k ∧ k < j then kk key p (i + j - 1 - k) else kk key p k := by
  have e := getElem?_mirror_all (i := i) hj k
  unfold kas_rev
  by_cases h1 : i ≤ k ∧ k < j
  · rw [if_pos h1] at e ⊢; exact kk_congr e
  · rw [if_neg h1] at e ⊢; exact kk_congr e
theorem kk_rev_eq {p : Array Nat} {i j : Nat} (hj : j ≤ p.size) (he : ∀ k, i ≤ k → k < j → kk key p k = kk key p (j - 1)) (k : Nat) : kk key (kas_rev p i j) k = kk key p k := by
  rw [kk_rev hj]
  split
  · rw [he _ om om, he k om om]
  · rfl
theorem kk_bubble {p : Array Nat} {src d : Nat} (hs : src < p.size) (hd : d ≤ src) (k : Nat) :
    kk key (bubble p src d) k = if k = src - d then kk key p src else if src - d < k ∧ k ≤ src then kk key p (k - 1) else kk key p k := by
  have e := getElem?_bubble hs d hd k
  by_cases h1 : k = src - d
  · rw [if_pos h1] at e ⊢; exact kk_congr e
  · rw [if_neg h1] at e ⊢
    by_cases h2 : src - d < k ∧ k ≤ src
    · rw [if_pos h2] at e ⊢; exact kk_congr e
    · rw [if_neg h2] at e ⊢; exact kk_congr e
noncomputable def lt_ (key : Nat → O.α) (i j : Nat) : Bool := O.blt (key i) (key j)
theorem rev_perm (p : Array Nat) (i j : Nat) : (kas_rev p i j).Perm p := mirror_perm _ _ _ _
theorem rev_size (p : Array Nat) (i j : Nat) : (kas_rev p i j).size = p.size := (rev_perm p i j).size_eq
theorem asc_ok {p : Array Nat} : ∀ (f n : Nat), 1 ≤ n → Sr key p n → ∃ m, ev (lt_ key) (kas_asc p f n) = m ∧ n ≤ m ∧ m ≤ n + f ∧ Sr key p m ∧ (m = n + f ∨ O.klt (kk key p m) (kk key p (m - 1)))
  | 0, n, _, hs => ⟨n, rfl, Nat.le_refl _, Nat.le_refl _, hs, .inl rfl⟩
  | f + 1, n, h1, hs => by
    show ∃ m, ev (lt_ key) (if lt_ key (p.getD n 0) (p.getD (n - 1) 0) = true then KasT.ret n else kas_asc p f (n + 1)) = m ∧ _
    cases hl : lt_ key (p.getD n 0) (p.getD (n - 1) 0) with
    | true => exact ⟨n, by simp [ev], Nat.le_refl _, om, hs, .inr hl⟩
    | false =>
      have hs' : Sr key p (n + 1) := fun i j hij hj => by
        by_cases hjn : j < n
        · exact hs i j hij hjn
        · have hj' : j = n := by first | lia | omega
          subst hj'
          by_cases hi' : i = j
          · subst hi'; exact KeyOrd.kle_refl _
          · exact KeyOrd.kle_trans (hs i (j - 1) om om) hl
      obtain ⟨m, e, a, b, c, d⟩ := asc_ok f (n + 1) om hs'
      refine ⟨m, by simpa using e, om, om, c, ?_⟩
      rcases d with d | d
      · exact .inl om
      · exact .inr d
theorem tail3_ok {p : Array Nat} {n nrem : Nat} (h1 : 1 ≤ n) (hn : n ≤ nrem) (hz : nrem ≤ p.size) (hs : Fl key p n) :
    ∃ m q, ev (lt_ key) (kas_tail3 n nrem p) = (m, q) ∧ q.Perm p ∧ 1 ≤ m ∧ m ≤ nrem ∧ Sr key q m := by
  unfold kas_tail3
  have hs' : Sr key (kas_rev p 0 n) n := fun i j hij hj => by
    rw [kk_rev om, kk_rev om, if_pos om, if_pos om]
    exact hs _ _ om om
  obtain ⟨m, e, a, b, c, -⟩ := asc_ok (nrem - n) n h1 hs'
  exact ⟨m, kas_rev p 0 n, by rw [ev_bind, e]; rfl, rev_perm _ _ _, om, om, c⟩
theorem desc_ok : ∀ (f n q : Nat) (p : Array Nat), 1 ≤ n → n + f ≤ p.size → Fl key p n → q + 1 ≤ n → (∀ i, n - (q + 1) ≤ i → i < n → kk key p i = kk key p (n - 1)) →
    ∃ p' n' q', ev (lt_ key) (kas_desc f p n q) = (p', n', q') ∧ p'.Perm p ∧ n ≤ n' ∧ n' ≤ n + f ∧ Fl key p' n' ∧ q' + 1 ≤ n' ∧ (∀ i, n' - (q' + 1) ≤ i → i < n' → kk key p' i = kk key p' (n' - 1))
  | 0, n, q, p, _, _, hs, hq, he => ⟨p, n, q, rfl, .refl _, Nat.le_refl _, Nat.le_refl _, hs, hq, he⟩
  | f + 1, n, q, p, h1, hz, hs, hq, he => by
    show ∃ p' n' q', ev (lt_ key) (if lt_ key (p.getD n 0) (p.getD (n - 1) 0) = true then _ else KasT.ask _ _ _) = (p', n', q') ∧ _
    cases hl : lt_ key (p.getD n 0) (p.getD (n - 1) 0) with
    | true =>
      have step : ∀ xs : Array Nat, (∀ k, kk key xs k = kk key p k) → Fl key xs (n + 1) := fun xs hk i j hij hj => by
        rw [hk, hk]
        by_cases hjn : j < n
        · exact hs i j hij hjn
        · have hj' : j = n := by first | lia | omega
          subst hj'
          by_cases hi' : i = j
          · subst hi'; exact KeyOrd.kle_refl _
          · exact KeyOrd.kle_trans (KeyOrd.kle_of_klt hl) (hs i (j - 1) om om)
      by_cases hq0 : q > 0
      · have hk := kk_rev_eq (key := key) (p := p) (i := n - (q + 1)) (j := n) om he
        obtain ⟨p', n', q', e, a, b, c, d⟩ := desc_ok f (n + 1) 0 (kas_rev p (n - (q + 1)) n) om (by rw [rev_size]; (first | lia | omega)) (step _ hk) om (fun i h1 h2 => by congr 1; (first | lia | omega))
        exact ⟨p', n', q', by simpa [hq0] using e, a.trans (rev_perm _ _ _), om, om, d⟩
      · obtain ⟨p', n', q', e, a, b, c, d⟩ := desc_ok f (n + 1) 0 p om om (step _ fun _ => rfl) om (fun i h1 h2 => by congr 1; (first | lia | omega))
        exact ⟨p', n', q', by simpa [hq0] using e, a, om, om, d⟩
    | false =>
      show ∃ p' n' q', ev (lt_ key) (if lt_ key (p.getD (n - 1) 0) (p.getD n 0) = true then KasT.ret (p, n, q) else kas_desc f p (n + 1) (q + 1)) = (p', n', q') ∧ _
      cases hr : lt_ key (p.getD (n - 1) 0) (p.getD n 0) with
      | true => exact ⟨p, n, q, by simp [ev], .refl _, Nat.le_refl _, om, hs, hq, he⟩
      | false =>
        have heq : kk key p n = kk key p (n - 1) := KeyOrd.kle_antisymm hr hl
        have hs' : Fl key p (n + 1) := fun i j hij hj => by
          by_cases hjn : j < n
          · exact hs i j hij hjn
          · have hj' : j = n := by first | lia | omega
            subst hj'
            by_cases hi' : i = j
            · subst hi'; exact KeyOrd.kle_refl _
            · rw [heq]; exact hs i (j - 1) om om
        obtain ⟨p', n', q', e, a, b, c, d⟩ := desc_ok f (n + 1) (q + 1) p om om hs' om (fun i h1 h2 => by
          rw [show n + 1 - 1 = n by first | lia | omega]
          by_cases hix : i = n
          · subst hix; rfl
          · rw [heq]; exact he i om om)
        exact ⟨p', n', q', by simpa using e, a, om, om, d⟩
theorem descPart_ok {p : Array Nat} {n nrem : Nat} (hn : n + 1 ≤ nrem) (hz : nrem ≤ p.size) (hs : Fl key p (n + 1)) :
    ∃ m q, ev (lt_ key) (kas_descPart n nrem p) = (m, q) ∧ q.Perm p ∧ 1 ≤ m ∧ m ≤ nrem ∧ Sr key q m := by
  unfold kas_descPart
  rw [ev_bind]
  obtain ⟨p', n', q', e, a, b, c, d, hq, he⟩ := desc_ok (nrem - (n + 1)) (n + 1) 0 p om om hs om (fun i h1 h2 => by congr 1; (first | lia | omega))
  rw [e]
  dsimp only
  have hz' : p'.size = p.size := a.size_eq
  by_cases hq0 : q' > 0
  · rw [if_pos hq0]
    have hk := kk_rev_eq (key := key) (p := p') (i := n' - (q' + 1)) (j := n') om he
    obtain ⟨m, r, e2, a2, b2, c2, d2⟩ := tail3_ok (key := key) (p := kas_rev p' (n' - (q' + 1)) n') (n := n') (nrem := nrem) om om (by rw [rev_size]; (first | lia | omega)) (fun i j hij hj => by rw [hk, hk]; exact d i j hij hj)
    exact ⟨m, r, e2, a2.trans ((rev_perm _ _ _).trans a), b2, c2, d2⟩
  · rw [if_neg hq0]
    obtain ⟨m, r, e2, a2, b2, c2, d2⟩ := tail3_ok (key := key) (p := p') (n := n') (nrem := nrem) om om om d
    exact ⟨m, r, e2, a2.trans a, b2, c2, d2⟩
theorem count_ok {p : Array Nat} {nrem : Nat} (h1 : 1 ≤ nrem) (hz : nrem ≤ p.size) : ∃ m q, ev (lt_ key) (kas_count nrem p) = (m, q) ∧ q.Perm p ∧ 1 ≤ m ∧ m ≤ nrem ∧ Sr key q m := by
  unfold kas_count
  rw [ev_bind]
  obtain ⟨n, e, a, b, hsn, hor⟩ := asc_ok (key := key) (p := p) (nrem - 1) 1 (Nat.le_refl _) (fun i j hij hj => by have : i = j := om; subst this; exact KeyOrd.kle_refl _)
  rw [e]
  by_cases hnn : n = nrem
  · rw [if_pos (by simpa using hnn)]
    exact ⟨n, p, rfl, .refl _, a, om, hsn⟩
  · rw [if_neg (by simpa using hnn)]
    have hlt : O.klt (kk key p n) (kk key p (n - 1)) := hor.resolve_left om
    by_cases hgt : n > 1
    · rw [if_pos hgt]
      show ∃ m q, ev (lt_ key) (if lt_ key (p.getD 0 0) (p.getD (n - 1) 0) = true then KasT.ret (n, p) else kas_descPart n nrem (kas_rev p 0 n)) = (m, q) ∧ _
      cases hr : lt_ key (p.getD 0 0) (p.getD (n - 1) 0) with
      | true => exact ⟨n, p, by simp [ev], .refl _, a, om, hsn⟩
      | false =>
        have hall : ∀ k, 0 ≤ k → k < n → kk key p k = kk key p (n - 1) := fun k _ hk =>
          KeyOrd.kle_antisymm (hsn k (n - 1) om om) (KeyOrd.kle_trans hr (hsn 0 k om hk))
        have hk := kk_rev_eq (key := key) (p := p) (i := 0) (j := n) om hall
        obtain ⟨m, q, e2, a2, b2, c2, d2⟩ := descPart_ok (key := key) (p := kas_rev p 0 n) (n := n) (nrem := nrem) om (by rw [rev_size]; (first | lia | omega)) (fun i j hij hj => by
          rw [hk, hk]
          by_cases hjn : j < n
          · rw [hall i om om, hall j om hjn]; exact KeyOrd.kle_refl _
          · have hj' : j = n := by first | lia | omega
            subst hj'
            by_cases hi' : i = j
            · subst hi'; exact KeyOrd.kle_refl _
            · rw [hall i om om]; exact KeyOrd.kle_of_klt hlt)
        exact ⟨m, q, by simpa using e2, a2.trans (rev_perm _ _ _), b2, c2, d2⟩
    · rw [if_neg hgt]
      have hn1 : n = 1 := by first | lia | omega
      subst hn1
      refine descPart_ok om hz fun i j hij hj => ?_
      by_cases hi' : i = j
      · subst hi'; exact KeyOrd.kle_refl _
      · have hi0 : i = 0 := by first | lia | omega
        have hj1 : j = 1 := by first | lia | omega
        subst hi0; subst hj1
        exact KeyOrd.kle_of_klt hlt
theorem place_ok {p : Array Nat} {k : Nat} (hs : Sr key p k) : ∀ (f l r : Nat), l ≤ r → r ≤ k → r - l ≤ f → (∀ i, i < l → O.kle (kk key p i) (kk key p k)) → (∀ i, r ≤ i → i < k → O.klt (kk key p k) (kk key p i)) →
    ∃ m, ev (lt_ key) (kas_place p k f l r) = m ∧ m ≤ k ∧ (∀ i, i < m → O.kle (kk key p i) (kk key p k)) ∧ (∀ i, m ≤ i → i < k → O.klt (kk key p k) (kk key p i))
  | 0, l, r, hlr, hrk, hf, hlo, hhi => ⟨l, rfl, om, hlo, fun i h1 h2 => hhi i om h2⟩
  | f + 1, l, r, hlr, hrk, hf, hlo, hhi => by
    unfold kas_place
    by_cases hge : l ≥ r
    · rw [if_pos hge]
      exact ⟨l, rfl, om, hlo, fun i h1 h2 => hhi i om h2⟩
    · rw [if_neg hge]
      show ∃ m, ev (lt_ key) (if lt_ key (p.getD k 0) (p.getD ((l + r) / 2) 0) = true then kas_place p k f l ((l + r) / 2) else kas_place p k f ((l + r) / 2 + 1) r) = m ∧ _
      cases hl : lt_ key (p.getD k 0) (p.getD ((l + r) / 2) 0) with
      | true =>
        obtain ⟨m, e, x⟩ := place_ok hs f l ((l + r) / 2) om om om hlo (fun i h1 h2 => KeyOrd.klt_of_klt_of_kle hl (hs _ _ h1 h2))
        exact ⟨m, by simpa using e, x⟩
      | false =>
        obtain ⟨m, e, x⟩ := place_ok hs f ((l + r) / 2 + 1) r om om om (fun i h1 => KeyOrd.kle_trans (hs i ((l + r) / 2) om om) (show O.kle _ _ from hl)) hhi
        exact ⟨m, by simpa using e, x⟩
theorem bin_ok : ∀ (f : Nat) (p : Array Nat) (k : Nat), k + f = p.size → Sr key p k → ∃ q, ev (lt_ key) (kas_bin f p k) = q ∧ q.Perm p ∧ Sr key q (k + f)
  | 0, p, k, _, hs => ⟨p, rfl, .refl _, hs⟩
  | f + 1, p, k, hz, hs => by
    unfold kas_bin
    rw [ev_bind]
    obtain ⟨l, e, hlk, hlo, hhi⟩ := place_ok (key := key) hs k 0 k om om om (fun i h => by first | lia | omega) (fun i h1 h2 => by first | lia | omega)
    rw [e]
    have hs' : Sr key (bubble p k (k - l)) (k + 1) := fun i j hij hj => by
      rw [kk_bubble om om, kk_bubble om om, show k - (k - l) = l by first | lia | omega]
      repeat' split
      all_goals first
        | (exfalso; (first | lia | omega))
        | exact KeyOrd.kle_refl _
        | exact hlo _ om
        | exact KeyOrd.kle_of_klt (hhi _ om om)
        | exact hs _ _ om om
    obtain ⟨q, e2, a, b⟩ := bin_ok f (bubble p k (k - l)) (k + 1) (by rw [(bubble_perm p k (k - l)).size_eq]; (first | lia | omega)) hs'
    exact ⟨q, e2, a.trans (bubble_perm _ _ _), by rw [show k + (f + 1) = k + 1 + f by first | lia | omega]; exact b⟩
theorem sort_ok (n : Nat) (h1 : 1 ≤ n) : ∃ q, ev (lt_ key) (kas_sort n) = q ∧ q.Perm (List.range n).toArray ∧ Sr key q n := by
  unfold kas_sort
  rw [ev_bind]
  have hz : (List.range n).toArray.size = n := by simp
  obtain ⟨m, q, e, a, b, c, d⟩ := count_ok (key := key) (p := (List.range n).toArray) h1 om
  rw [e]
  dsimp only
  have hq : q.size = n := by rw [a.size_eq, hz]
  by_cases hm : m < n
  · rw [if_pos hm]
    obtain ⟨r, e2, a2, b2⟩ := bin_ok (key := key) (n - max m 1) q (max m 1) om (by rw [show max m 1 = m by first | lia | omega]; exact d)
    exact ⟨r, e2, a2.trans a, by rw [show max m 1 + (n - max m 1) = n by first | lia | omega] at b2; exact b2⟩
  · rw [if_neg hm]
    have : m = n := by first | lia | omega
    subst this
    exact ⟨q, rfl, a, d⟩
end
end SortT
namespace SortT
open PySem.W PyProof.Rows
noncomputable def WinP {α : Type} (n : Nat) (R : α → Prop) : KasT α → Prop
  | .ret a => R a
  | .ask i j k => i < n ∧ j < n ∧ ∀ b, WinP n R (k b)
theorem WinP.bind {α β : Type} {n : Nat} {R : α → Prop} {R' : β → Prop} {f : α → KasT β} (hf : ∀ a, R a → WinP n R' (f a)) : ∀ (t : KasT α), WinP n R t → WinP n R' (t.bind f)
  | .ret a, h => hf a h
  | .ask _ _ k, h => ⟨h.1, h.2.1, fun b => WinP.bind hf (k b) (h.2.2 b)⟩
noncomputable def Bd (n : Nat) (p : Array Nat) : Prop := ∀ i, p.getD i 0 < n
theorem Bd.perm {n : Nat} {p q : Array Nat} (h : Bd n q) (hp : p.Perm q) : Bd n p := fun i => by
  have h0 : 0 < n := Nat.lt_of_le_of_lt (Nat.zero_le _) (h 0)
  by_cases hi : i < p.size
  · have e : p.getD i 0 = p[i] := by simp [Array.getD, hi]
    rw [e]
    have hm : p[i] ∈ q.toList := (Array.perm_iff_toList_perm.mp hp).mem_iff.mp (by simp)
    obtain ⟨j, hj, ej⟩ := List.getElem_of_mem hm
    have hj' : j < q.size := by simpa using hj
    have := h j
    rw [show q.getD j 0 = q[j] by simp [Array.getD, hj']] at this
    rw [← ej]
    simpa using this
  · have e : p.getD i 0 = 0 := by simp [Array.getD, hi]
    rw [e]; exact h0
theorem asc_win {n : Nat} {p : Array Nat} (hp : Bd n p) : ∀ f m, WinP n (fun _ => True) (kas_asc p f m)
  | 0, _ => trivial
  | f + 1, m => ⟨hp _, hp _, fun b => by
      cases b with
      | true => exact trivial
      | false => exact asc_win hp f (m + 1)⟩
theorem desc_win {n : Nat} : ∀ (f : Nat) (p : Array Nat) (m q : Nat), Bd n p → WinP n (fun r => Bd n r.1) (kas_desc f p m q)
  | 0, _, _, _, hp => hp
  | f + 1, p, m, q, hp => ⟨hp _, hp _, fun b => by
      cases b with
      | true =>
        show WinP n _ (if q > 0 then kas_desc f (kas_rev p (m - (q + 1)) m) (m + 1) 0 else kas_desc f p (m + 1) 0)
        split
        · exact desc_win f _ _ _ (hp.perm (rev_perm _ _ _))
        · exact desc_win f _ _ _ hp
      | false =>
        refine ⟨hp _, hp _, fun d => ?_⟩
        cases d with
        | true => exact hp
        | false => exact desc_win f _ _ _ hp⟩
theorem tail3_win {n m nrem : Nat} {p : Array Nat} (hp : Bd n p) : WinP n (fun r => Bd n r.2) (kas_tail3 m nrem p) := by
  unfold kas_tail3
  exact WinP.bind (R := fun _ => True) (R' := fun r => Bd n r.2) (f := fun k => KasT.ret (k, kas_rev p 0 m)) (fun a _ => hp.perm (rev_perm p 0 m)) _ (asc_win (hp.perm (rev_perm p 0 m)) _ _)
theorem descPart_win {n m nrem : Nat} {p : Array Nat} (hp : Bd n p) : WinP n (fun r => Bd n r.2) (kas_descPart m nrem p) :=
  WinP.bind (fun r hr => by
    split
    · exact tail3_win (hr.perm (rev_perm _ _ _))
    · exact tail3_win hr) _ (desc_win _ _ _ _ hp)
theorem count_win {n nrem : Nat} {p : Array Nat} (hp : Bd n p) : WinP n (fun r => Bd n r.2) (kas_count nrem p) :=
  WinP.bind (fun r _ => by
    split
    · exact hp
    · split
      · refine ⟨hp _, hp _, fun b => ?_⟩
        cases b with
        | true => exact hp
        | false => exact descPart_win (hp.perm (rev_perm _ _ _))
      · exact descPart_win hp) _ (asc_win hp _ _)
theorem place_win {n k : Nat} {p : Array Nat} (hp : Bd n p) : ∀ f l r, WinP n (fun _ => True) (kas_place p k f l r)
  | 0, _, _ => trivial
  | f + 1, l, r => by
    unfold kas_place
    split
    · exact trivial
    · refine ⟨hp _, hp _, fun b => ?_⟩
      cases b with
      | true => exact place_win hp f _ _
      | false => exact place_win hp f _ _
theorem bin_win {n : Nat} : ∀ (f : Nat) (p : Array Nat) (k : Nat), Bd n p → WinP n (fun _ => True) (kas_bin f p k)
  | 0, _, _, _ => trivial
  | f + 1, p, k, hp => WinP.bind (fun l _ => bin_win f _ _ (hp.perm (bubble_perm _ _ _))) _ (place_win hp _ _ _)
theorem sort_win {n : Nat} (h : 0 < n) : WinP n (fun _ => True) (kas_sort n) :=
  WinP.bind (fun r hr => by
    split
    · exact bin_win _ _ _ hr
    · exact trivial) _ (count_win fun i => by
      by_cases hi : i < n
      · simp [Array.getD, hi]
      · simp [Array.getD, hi]; exact h)
end SortT
namespace SortT
open PySem PySem.W PySem.Calls PyProof.Rows
theorem wp_ev {α : Type} {cmp : Nat → Nat → (Bool → Shared → Prop) → Shared → Prop} {lt : Nat → Nat → Bool} {n : Nat} {s : Shared} (hc : ∀ i j C, i < n → j < n → C (lt i j) s → cmp i j C s) {R : α → Prop} {Q : α → Shared → Prop} :
    ∀ t : KasT α, WinP n R t → Q (ev lt t) s → t.kasWp cmp Q s
  | .ret _, _, h => h
  | .ask i j k, w, h => hc i j _ w.1 w.2.1 (wp_ev hc (k (lt i j)) (w.2.2 _) h)
section
variable {prog : Program} {w : World} {A : Around} {E : Value → Shared → Prop} {s : Shared}
structure Put {O : KeyOrd} (key : Nat → O.α) (n : Nat) (out : List Nat) : Prop where
  perm : out.Perm (List.range n)
  rise : ∀ (i j a b : Nat), i ≤ j → out[i]? = some a → out[j]? = some b → O.kle (key a) (key b)
theorem put_of {O : KeyOrd} {key : Nat → O.α} {n : Nat} {q : Array Nat} (hp : q.Perm (List.range n).toArray) (hs : Sr key q n) : Put key n q.toList := by
  have hl : q.toList.Perm (List.range n) := Array.perm_iff_toList_perm.mp hp
  refine ⟨hl, fun i j a b hij ha hb => ?_⟩
  have hz : q.size = n := by have := hp.size_eq; simpa using this
  have hj : j < q.toList.length := (List.getElem?_eq_some_iff.mp hb).1
  have hj' : j < n := by rw [← hz]; simpa using hj
  have h := hs i j hij hj'
  have ga : q.getD i 0 = a := by
    rw [Array.getD_eq_getD_getElem?, ← Array.getElem?_toList, ha]; rfl
  have gb : q.getD j 0 = b := by
    rw [Array.getD_eq_getD_getElem?, ← Array.getElem?_toList, hb]; rfl
  unfold kk at h
  rw [ga, gb] at h
  exact h
structure Asks (prog : Program) (w : World) (A : Around) (s : Shared) (a : Addr) (vs : List Value) {O : KeyOrd} (key : Nat → O.α) (κ : SortKind) : Prop where
  kind : ∀ (h' : Heap) (Q : SortKind → Shared → Prop) (E : Value → Shared → Prop), (∀ b o, b ≠ a → s.heap.get? b = some o → h'.get? b = some o) → Q κ { s with heap := h' } → wpAny (model prog w) A (keyKind' vs.toArray) Q E { s with heap := h' }
  less : ∀ (h' : Heap) (i j : Nat) (Q : Bool → Shared → Prop) (E : Value → Shared → Prop), (∀ b o, b ≠ a → s.heap.get? b = some o → h'.get? b = some o) → i < vs.length → j < vs.length → Q (O.blt (key i) (key j)) { s with heap := h' } →
    wpAny (model prog w) A (keyLt' κ (vs.getD i Value.none) (vs.getD j Value.none)) Q E { s with heap := h' }
theorem list_sort {a : Addr} {vs : List Value} {n : Nat} {P : PySem.Fin → Shared → Prop} {O : KeyOrd} {key : Nat → O.α} {κ : SortKind} (ho : s.heap.get? a = some (seqObj "list" vs.toArray n)) (h64 : vs.length < 64)
    (ask : 2 ≤ vs.length → Asks prog w A s a vs key κ)
    (h : ∀ out : List Nat, Put key vs.length out → P (.done (.ret .none)) { s with heap := sortedHeap s.heap a vs (out.map fun i => vs.getD i Value.none).toArray }) :
    wpAny (model prog w) A (Builtin.«list.sort» ⟨[.ref a], []⟩) P E s := by
  rw [list_sort_plain]
  have ha : a < s.heap.objs.size := Heap.lt_size ho
  refine wpAny_bind (listItems_at ho rfl ?_)
  refine wpAny_bind (listUpdate_at ho rfl ?_ (by rw [List.size_toArray, sizeLine_eq]; (first | lia | omega)) (Nat.zero_le _))
  obtain ⟨e1, ho1⟩ : ∃ e1, (s.heap.update a (Obj.mapSeq fun _ => #[])).get? a = some (seqObj "list" #[] e1) := ⟨_, get?_update_seq ho (fun _ => #[])⟩
  refine wpAny_bind (seqEpoch_at ho1 rfl ?_)
  refine wpAny_bind (wpAny_newTuple ?_ (by show vs.length ≤ _; rw [sizeLine_eq]; (first | lia | omega)))
  refine wpAny_bind (wpAny_newList ?_ (Nat.zero_le _))
  refine wpAny_holding ?_
  have ho6 : (((s.heap.update a (Obj.mapSeq fun _ => #[])).push (seqObj "tuple" vs.toArray 0)).push (seqObj "list" #[] 0)).get? a = some (seqObj "list" #[] e1) := by
    rw [Heap.get?_push_ne _ _ _ (by rw [size_push', Heap.size_update]; exact Nat.ne_of_lt (Nat.lt_succ_of_lt ha)), Heap.get?_push_ne _ _ _ (by rw [Heap.size_update]; exact Nat.ne_of_lt ha)]
    exact ho1
  have keep : ∀ b o, b ≠ a → s.heap.get? b = some o → (((s.heap.update a (Obj.mapSeq fun _ => #[])).push (seqObj "tuple" vs.toArray 0)).push (seqObj "list" #[] 0)).get? b = some o := fun b o hb e => by
    refine Heap.get?_push_of_some _ (Heap.get?_push_of_some _ ?_)
    rw [Heap.get?_update_ne _ _ _ _ hb]
    exact e
  show wpAny (model prog w) A _ P E { s with heap := ((s.heap.update a (Obj.mapSeq fun _ => #[])).push (seqObj "tuple" vs.toArray 0)).push (seqObj "list" #[] 0) }
  dsimp only
  by_cases h2 : vs.toArray.size < 2
  · rw [if_pos h2, if_pos h2]
    refine wpAny_bind (wpAny_pure ?_)
    rw [StateT.run_pure]
    refine wpAny_bind (wpAny_pure ?_)
    dsimp only
    refine wpAny_bind (seqEpoch_at ho6 rfl ?_)
    refine wpAny_bind (listUpdate_at ho6 rfl ?_ (Nat.zero_le _) (by rw [Array.size_map]; show (pairsOf vs).size ≤ _; rw [pairsOf_size, sizeLine_eq]; (first | lia | omega)))
    simp only [bne_self_eq_false, Bool.false_eq_true, if_false]
    refine wpAny_pure ?_
    have hlen : vs.length < 2 := by simpa using h2
    have hout : (arrOf (SortSt.mk' general' (vs.toArray.zip vs.toArray) #[] 7 none)).map (·.2) = ((List.range vs.length).map fun i => vs.getD i Value.none).toArray := by
      show (vs.toArray.zip vs.toArray).map (·.2) = _
      match vs, hlen with
      | [], _ => simp
      | [v], _ => simp
      | _ :: _ :: _, h => exfalso; simp only [List.length_cons] at h; (first | lia | omega)
    have fin := h (List.range vs.length) ⟨.refl _, fun i j x y hij hx hy => by
      have hj : j < (List.range vs.length).length := (List.getElem?_eq_some_iff.mp hy).1
      rw [List.length_range] at hj
      have e : i = j := by first | lia | omega
      subst e
      rw [hx] at hy
      cases hy
      exact KeyOrd.kle_refl _⟩
    rw [← hout] at fin
    exact fin
  · rw [if_neg h2, if_neg h2]
    have h2' : 2 ≤ vs.length := by
      have : ¬ vs.length < 2 := by simpa using h2
      (first | lia | omega)
    have K := ask h2'
    refine wpAny_bind (K.kind _ _ _ keep ?_)
    obtain ⟨q, eq, hp, hs⟩ := sort_ok (key := key) vs.length om
    have run : (kas_sort vs.length).kasWp (kas_ask prog w A κ vs) (fun p s' => p = q ∧ s' = { s with heap := ((s.heap.update a (Obj.mapSeq fun _ => #[])).push (seqObj "tuple" vs.toArray 0)).push (seqObj "list" #[] 0) })
        { s with heap := ((s.heap.update a (Obj.mapSeq fun _ => #[])).push (seqObj "tuple" vs.toArray 0)).push (seqObj "list" #[] 0) } :=
      wp_ev (lt := lt_ key) (n := vs.length) (fun i j C hi hj hC => K.less _ i j C _ keep hi hj hC) _ (sort_win om) ⟨eq, rfl⟩
    refine wpAny_bind (wpAny_mono (kat_run (ks := vs) (vs := vs) (Q := fun st' s' => ∃ p : Array Nat, p.size = vs.length ∧ arrOf st' = p.map (kas_item (vs.toArray.zip vs.toArray)) ∧ failedOf st' = none ∧ p = q ∧ s' = { s with heap := ((s.heap.update a (Obj.mapSeq fun _ => #[])).push (seqObj "tuple" vs.toArray 0)).push (seqObj "list" #[] 0) })
      rfl h2' h64 (fun p' st' s' a1 a2 a3 a4 => ⟨p', a1, a2, a3, a4⟩) run) ?_ fun _ _ e => e)
    rintro ⟨⟨⟩, st'⟩ s' ⟨p, hsz, har, hf, rfl, rfl⟩
    dsimp only
    refine wpAny_bind (seqEpoch_at ho6 rfl ?_)
    refine wpAny_bind (listUpdate_at ho6 rfl ?_ (Nat.zero_le _) (by rw [Array.size_map, har, Array.size_map, hsz, sizeLine_eq]; (first | lia | omega)))
    rw [hf]
    simp only [bne_self_eq_false, Bool.false_eq_true, if_false]
    refine wpAny_pure ?_
    have hout := kat_snds (ks := vs) (vs := vs) rfl har
    have fin := h p.toList (put_of hp hs)
    rw [← hout] at fin
    exact fin
theorem sorted_list {l : Addr} {vs : List Value} {Q : Value → Shared → Prop} {O : KeyOrd} {key : Nat → O.α} {κ : SortKind} (hl : s.heap.IsList l vs.toArray) (h64 : vs.length < 64)
    (ask : 2 ≤ vs.length → ∀ (s' : Shared) (a : Addr), (∀ b o, s.heap.get? b = some o → b ≠ a) → (∀ b o, s.heap.get? b = some o → s'.heap.get? b = some o) → Asks prog w A.in1.in1 s' a vs key κ)
    (h : ∀ (D : Addr) (h' : Heap) (out : List Nat) (c : Nat), Put key vs.length out → s.heap.objs.size ≤ D → (∀ b o, s.heap.get? b = some o → h'.get? b = some o) →
      h'.get? D = some (seqObj "list" (out.map fun i => vs.getD i Value.none).toArray c) → Q (.ref D) { s with heap := h' }) :
    wpAny (model prog w) A (call (.builtin "sorted") [.ref l]) Q E s := by
  refine Calls.call_function_entry kind_sorted plain_sorted entry_sorted (args_sorted1 _) ?_
  unfold Builtin.«sorted»
  refine wpAny_bind (m := checkCount "sorted" 1 1 _) (wpAny_pure ?_)
  refine wpAny_bind (collect_list hl ?_ (by rw [sizeLine_eq]; (first | lia | omega)))
  refine wpAny_bind (wpAny_newList ?_ (by rw [sizeLine_eq]; (first | lia | omega)))
  have hsz : ((s.heap.push (seqObj "list" #[] 0)).update s.heap.objs.size (Obj.mapSeq (· ++ vs.toArray))).objs.size = s.heap.objs.size + 1 := by
    rw [Heap.size_update, size_push']
  have hoL : (((s.heap.push (seqObj "list" #[] 0)).update s.heap.objs.size (Obj.mapSeq (· ++ vs.toArray))).push (seqObj "list" vs.toArray 0)).get? (s.heap.objs.size + 1) = some (seqObj "list" vs.toArray 0) := by
    rw [← hsz]; exact Heap.get?_push_size _ rfl
  have keep : ∀ b o, s.heap.get? b = some o → (((s.heap.push (seqObj "list" #[] 0)).update s.heap.objs.size (Obj.mapSeq (· ++ vs.toArray))).push (seqObj "list" vs.toArray 0)).get? b = some o := fun b o q => by
    have hlt : b < s.heap.objs.size := Heap.lt_size q
    rw [Heap.get?_push_ne _ _ _ (by rw [hsz]; exact Nat.ne_of_lt (Nat.lt_succ_of_lt hlt)), Heap.get?_update_ne _ _ _ _ (Nat.ne_of_lt hlt), Heap.get?_push_ne _ _ _ (Nat.ne_of_lt hlt)]
    exact q
  show wpAny _ _ _ _ _ { s with heap := ((s.heap.push (seqObj "list" #[] 0)).update s.heap.objs.size (Obj.mapSeq (· ++ vs.toArray))).push (seqObj "list" vs.toArray 0) }
  rw [hsz]
  refine wpAny_bind (wpAny_holding (wpAny_call_entry slot_list_sort ⟨_, hoL, rfl⟩ entry_list_sort (list_sort (O := O) (key := key) (κ := κ) hoL h64 (fun h2 => ask h2 _ _ (fun b o e => Nat.ne_of_lt (Nat.lt_succ_of_lt (Heap.lt_size e))) keep) fun out hp => ⟨_, rfl, ?_⟩) (args_list_sort _)))
  refine wpAny_pure ⟨_, rfl, ?_⟩
  obtain ⟨c, hc⟩ := sortedAll_at s.heap vs (out.map fun i => vs.getD i Value.none).toArray
  exact h _ _ out c hp (Nat.le_succ _) (fun b o e => sortedAll_old e) hc
end
end SortT
namespace DRaw
open PySem PySem.W PySem.Calls PyProof.Rows
noncomputable def At (h : Heap) (d : Addr) (es : Array DictEntry) (ep : Nat) : Prop := ∃ o, h.get? d = some o ∧ o.ExactDict ∧ o.data = .dict es ep
theorem At.keep {h h' : Heap} {d : Addr} {es : Array DictEntry} {ep : Nat} (x : At h d es ep) (k : ∀ o, h.get? d = some o → h'.get? d = some o) : At h' d es ep :=
  let ⟨o, ho, r⟩ := x; ⟨o, k o ho, r⟩
theorem At.lt {h : Heap} {d : Addr} {es : Array DictEntry} {ep : Nat} (x : At h d es ep) : d < h.objs.size := let ⟨_, ho, _⟩ := x; Heap.lt_size ho
theorem At.typeIs {s : Shared} {d : Addr} {es : Array DictEntry} {ep : Nat} (x : At s.heap d es ep) : s.TypeIs (.ref d) "dict" := let ⟨o, ho, hc, _⟩ := x; ⟨o, ho, hc.1⟩
section
variable {prog : Program} {w : World} {A : Around} {E : Value → Shared → Prop} {s : Shared} {it d : Addr} {es : Array DictEntry} {i ep : Nat}
theorem iter {Q : Value → Shared → Prop} (hd : (d == sysModules) = false) (hm : At s.heap d es ep)
    (hQ : Q (.ref s.heap.objs.size) { s with heap := s.heap.push { cls := .type "dict_keyiterator", data := .fields #[.ref d, .int 0 0, .int es.size 0, .int ep 0] } }) :
    wpAny (model prog w) A (pyIter (.ref d)) Q E s := by
  obtain ⟨o, ho, hc, hdat⟩ := id hm
  have hT := hm.typeIs
  refine wpAny_pyIter_slot hT F.slot_dict_iter (wpAny_call_entry F.slot_dict_iter hT F.entry_dict_iter ?_ (F.args_dict_iter_1 _))
  unfold Builtin.«dict.__iter__»
  refine wpAny_bind ?_
  unfold Builtin.Dict.dictSlotNone
  refine wpAny_bind (wpAny_notOrdered_dict hT ?_)
  show wpAny _ _ (pure (Value.ref d)) _ _ s
  refine wpAny_pure ?_
  show wpAny _ _ (Builtin.Dict.showsAll d >>= _) _ _ s
  unfold Builtin.Dict.showsAll
  rw [if_neg (by rw [hd]; exact Bool.false_ne_true)]
  refine wpAny_bind (wpAny_pure ?_)
  refine wpAny_bind (wpAny_dictEntries ho hdat ?_)
  refine wpAny_bind (wpAny_dictEpoch ho hdat ?_)
  refine wpAny_bind (wpAny_newObj_type (wpAny_pure ⟨_, rfl, "dict_keyiterator", _, ⟨_, Heap.get?_push_size _ rfl, rfl⟩, F.slot_dict_keyiterator_next.lookup, ?_⟩))
  simpa [rawInt] using hQ
theorem next {Q : Option Value → Shared → Prop} (hit : s.heap.IsKeyIter it d i es.size ep) (hm : At s.heap d es ep) (hlt' : i < es.size)
    (hQ : ∀ h', h'.IsKeyIter it d (i + 1) es.size ep → Heap.SameBut it s.heap h' → Q (some es[i].key) { s with heap := h' }) : wpAny (model prog w) A (pyNext (.ref it)) Q E s := by
  obtain ⟨o, ho, hc, hd⟩ := id hit
  obtain ⟨od, hod, hcd, hdd⟩ := id hm
  unfold pyNext
  refine wpAny_bind (wpAny_attempt (wpAny_callSpecial?_slot (name := Str.ofString "__next__") hit.typeIs F.slot_dict_keyiterator_next
    (wpAny_call_entry F.slot_dict_keyiterator_next hit.typeIs F.entry_dict_keyiterator_next ?_ (F.args_dict_keyiterator_next_1 _))))
  refine wpAny_bind (wpAny_pure ?_)
  refine wpAny_bind ?_
  refine wpAny_bind ?_
  first | refine wpAny_bind (wpAny_typeNameOfWhole_keyiter hit.typeIs (wpAny_pure ?_)) | refine wpAny_bind (wpAny_typeNameOf_keyiter hit.typeIs (wpAny_pure ?_))
  refine wpAny_bind (wpAny_fieldsOf ho hd ?_)
  have hown : Builtin.Dict_items.ownsTuple "dict_keyiterator" = false := by decide
  simp only [hown, Bool.false_eq_true, if_false]
  show wpAny _ _ (if (Value.ref d == Value.none) = true then _ else _) _ _ s
  rw [if_neg (show ¬ ((Value.ref d == Value.none) = true) from Bool.false_ne_true)]
  refine wpAny_bind (wpAny_pure ?_)
  refine wpAny_bind (wpAny_dictEntries hod hdd ?_)
  rw [if_neg (by simp)]
  refine wpAny_bind (wpAny_pure ?_)
  refine wpAny_bind (wpAny_dictEpoch hod hdd ?_)
  rw [if_neg (by simp)]
  refine wpAny_pure ?_
  simp only [show ¬ ((i : Int) < 0) from by first | lia | omega, if_false, Int.toNat_natCast, Array.getElem?_eq_getElem hlt']
  refine wpAny_bind ?_
  first | refine wpAny_bind (wpAny_typeNameOfWhole_keyiter hit.typeIs (wpAny_pure ?_)) | refine wpAny_bind (wpAny_typeNameOf_keyiter hit.typeIs (wpAny_pure ?_))
  refine wpAny_bind (wpAny_isOneOf_keyiter hit.typeIs ?_)
  show wpAny _ _ (setField (.ref it) 1 (rawInt ((i : Int) + 1)) >>= _) _ _ s
  refine wpAny_bind (wpAny_setField ho hd (by simp) ?_)
  have hit' : (s.heap.update it (Obj.mapFields (·.setIfInBounds 1 (rawInt ((i : Int) + 1))))).IsKeyIter it d (i + 1) es.size ep :=
    ⟨_, Heap.get?_update_self _ ho (Obj.isFreed_of_fields (Obj.data_mapFields hd _)), (Obj.cls_mapFields ..).trans hc, by rw [Obj.data_mapFields hd]; simp [rawInt]⟩
  refine wpAny_bind (wpAny_holding ?_)
  refine wpAny_bind (wpAny_isOneOf_keyiter (s := { s with heap := s.heap.update it (Obj.mapFields (·.setIfInBounds 1 (rawInt ((i : Int) + 1)))) }) hit'.typeIs ?_)
  show wpAny _ _ (pure es[i].key) _ _ _
  exact wpAny_pure (wpAny_pure ⟨_, rfl, wpAny_pure (hQ _ hit' (Heap.SameBut.update ..))⟩)
theorem stop {Q : Option Value → Shared → Prop} (hh : A.handled = none) (hit : s.heap.IsKeyIter it d i es.size ep) (hm : At s.heap d es ep) (hge : es.size ≤ i)
    (hQ : ∀ h', Heap.ExtBut it s.heap h' → Q none { s with heap := h' }) : wpAny (model prog w) A (pyNext (.ref it)) Q E s := by
  obtain ⟨o, ho, hc, hd⟩ := id hit
  obtain ⟨od, hod, hcd, hdd⟩ := id hm
  unfold pyNext
  refine wpAny_bind (wpAny_attempt (wpAny_callSpecial?_slot (name := Str.ofString "__next__") hit.typeIs F.slot_dict_keyiterator_next
    (wpAny_call_entry F.slot_dict_keyiterator_next hit.typeIs F.entry_dict_keyiterator_next ?_ (F.args_dict_keyiterator_next_1 _))))
  refine wpAny_bind (wpAny_pure ?_)
  refine wpAny_bind ?_
  refine wpAny_bind ?_
  first | refine wpAny_bind (wpAny_typeNameOfWhole_keyiter hit.typeIs (wpAny_pure ?_)) | refine wpAny_bind (wpAny_typeNameOf_keyiter hit.typeIs (wpAny_pure ?_))
  refine wpAny_bind (wpAny_fieldsOf ho hd ?_)
  have hown : Builtin.Dict_items.ownsTuple "dict_keyiterator" = false := by decide
  simp only [hown, Bool.false_eq_true, if_false]
  show wpAny _ _ (if (Value.ref d == Value.none) = true then _ else _) _ _ s
  rw [if_neg (show ¬ ((Value.ref d == Value.none) = true) from Bool.false_ne_true)]
  refine wpAny_bind (wpAny_pure ?_)
  refine wpAny_bind (wpAny_dictEntries hod hdd ?_)
  rw [if_neg (by simp)]
  refine wpAny_bind (wpAny_pure ?_)
  refine wpAny_bind (wpAny_dictEpoch hod hdd ?_)
  rw [if_neg (by simp)]
  refine wpAny_pure ?_
  simp only [show ¬ ((i : Int) < 0) from by first | lia | omega, if_false, Int.toNat_natCast, Array.getElem?_eq_none hge]
  refine wpAny_bind ?_
  first | refine wpAny_bind (wpAny_typeNameOfWhole_keyiter hit.typeIs (wpAny_pure ?_)) | refine wpAny_bind (wpAny_typeNameOf_keyiter hit.typeIs (wpAny_pure ?_))
  show wpAny _ _ (setField (.ref it) 0 .none >>= _) _ _ s
  refine wpAny_bind (wpAny_setField ho hd (by simp) ?_)
  show wpAny _ _ (newExc (.type "StopIteration") [] >>= _) _ _ _
  refine wpAny_bind ?_
  simp only [newExc, newTuple]
  refine wpAny_bind (wpAny_newObj_type ?_ (by size_fits))
  refine wpAny_bind (m := firstArgMember _ _) (wpAny_of_eq (a := Value.none) (by first | rfl | (simp only [firstArgMember]; rfl)) ?_)
  refine wpAny_newObj_type ?_ (by size_fits)
  simp only [raiseNew]
  refine wpAny_bind (wpAny_handled ?_)
  rw [show A.in1.handled = none from hh]
  refine wpAny_bind (wpAny_pure (wpAny_throw ?_))
  refine wpAny_bind (wpAny_isInstance (T := "StopIteration") (b := true) ⟨_, Heap.get?_push_size _ rfl, rfl⟩ isSubtype_stop ?_)
  exact wpAny_pure (hQ _ (((Heap.SameBut.update ..).extBut.push _).push _))
end
section
variable {prog : Program} {w : World} {A : Around} {d : Addr} {es : Array DictEntry} {ep : Nat}
theorem walks (hh : A.handled = none) (I : Addr) (hne : d ≠ I) : Walks prog w A I [I, d] [I] es.size (fun i v => ∃ e, es[i]? = some e ∧ v = e.key) (fun i h => h.IsKeyIter I d i es.size ep ∧ At h d es ep) where
  sub := fun b hb => by simp at hb; simp [hb]
  frame := fun _ _ _ st hk => ⟨st.1.at fun o e => hk I (by simp) o e, st.2.keep fun o e => hk d (by simp) o e⟩
  item := fun i s Q E hi st hQ => next st.1 st.2 hi fun h' hit' hs' =>
    hQ _ h' s.toks ⟨es[i], by simp [hi], rfl⟩ ⟨hit', st.2.keep fun o e => hs'.extBut d o hne e⟩ fun b o hb e => hs'.extBut b o (fun h => hb (by simp [h])) e
  done := fun s Q E st hQ => stop hh st.1 st.2 (Nat.le_refl _) fun h' he' => hQ h' s.toks fun b o hb e => he' b o (fun h => hb (by simp [h])) e
  self := fun _ _ _ _ st hQ => wpAny_pyIter_keyiter st.1 hQ
theorem src (lo : (d == sysModules) = false) : KdlSrc prog w "dict" d d es.size (fun i v => ∃ e, es[i]? = some e ∧ v = e.key) (fun h => At h d es ep) where
  type := fun _ hm => hm.typeIs
  there := fun _ hm => ⟨hm.lt, hm.lt⟩
  keep := fun _ _ hm hk => hm.keep fun o e => hk d (.inl rfl) o e
  notList := by decide
  notTuple := by decide
  hint := fun _ _ _ _ hm hq => kdl_hint_dict hm.typeIs hq
  iter := fun _ _ hh hm => ⟨_, _, (fun _ _ hq => iter lo hm hq), walks hh _ (Nat.ne_of_lt hm.lt), ⟨⟨_, Heap.get?_push_size _ rfl, rfl, rfl⟩, hm.keep fun o e => Heap.get?_push_of_some _ e⟩⟩
end
end DRaw
namespace SortT
open PySem PySem.W PySem.Calls PyProof.Rows
theorem sorted_dict {prog : Program} {w : World} {A : Around} {E : Value → Shared → Prop} {s : Shared} {d : Addr} {es : Array DictEntry} {ep : Nat} {vs : List Value} {Q : Value → Shared → Prop} {O : KeyOrd} {key : Nat → O.α} {κ : SortKind}
    (hh : A.handled = none) (lo : (d == sysModules) = false) (hm : DRaw.At s.heap d es ep) (hvs : vs = es.toList.map (·.key)) (h64 : vs.length < 64)
    (ask : 2 ≤ vs.length → ∀ (s' : Shared) (a : Addr), (∀ b o, s.heap.get? b = some o → b ≠ a) → (∀ b o, s.heap.get? b = some o → s'.heap.get? b = some o) → Asks prog w A.in1.in1 s' a vs key κ)
    (h : ∀ (h1 : Heap) (D : Addr) (h' : Heap) (t' : Nat) (out : List Nat) (c : Nat), Put key vs.length out → (∀ b o, s.heap.get? b = some o → h1.get? b = some o) → h1.objs.size ≤ D → (∀ b o, h1.get? b = some o → h'.get? b = some o) →
      h'.get? D = some (seqObj "list" (out.map fun i => vs.getD i Value.none).toArray c) → Q (.ref D) { s with heap := h', toks := t' }) :
    wpAny (model prog w) A (call (.builtin "sorted") [.ref d]) Q E s := by
  have hlen : vs.length = es.size := by rw [hvs]; simp
  refine call_function_entry kind_sorted plain_sorted entry_sorted (args_sorted1 _) ?_
  unfold Builtin.«sorted»
  refine wpAny_bind (m := checkCount "sorted" 1 1 _) (wpAny_pure ?_)
  refine wpAny_bind (kdu_collect (A := A.in1) (DRaw.src (es := es) (ep := ep) lo) hh hm (by rw [sizeLine_eq]; (first | lia | omega)) fun h1 tk acc hk hacc => ?_)
  have el : acc.toList = vs := by
    apply List.ext_getElem?
    intro j
    by_cases hj : j < es.size
    · have hz : j < acc.size := by rw [hacc.1]; exact hj
      obtain ⟨e, he, hv⟩ := hacc.2 j acc[j] (by simp [hz])
      rw [Array.getElem?_toList, Array.getElem?_eq_getElem hz, hv, hvs, List.getElem?_map, Array.getElem?_toList, he]
      rfl
    · rw [List.getElem?_eq_none (by rw [Array.length_toList, hacc.1]; (first | lia | omega)), List.getElem?_eq_none om]
  rw [el]
  refine wpAny_bind (wpAny_newList ?_ (by rw [sizeLine_eq]; (first | lia | omega)))
  have hoL : (h1.push (seqObj "list" vs.toArray 0)).get? h1.objs.size = some (seqObj "list" vs.toArray 0) := Heap.get?_push_size _ rfl
  have keep1 : ∀ b o, h1.get? b = some o → (h1.push (seqObj "list" vs.toArray 0)).get? b = some o := fun b o q => Heap.get?_push_of_some _ q
  refine wpAny_bind (wpAny_holding (wpAny_call_entry slot_list_sort ⟨_, hoL, rfl⟩ entry_list_sort (list_sort (O := O) (key := key) (κ := κ) hoL h64
    (fun h2 => ask h2 _ _ (fun b o e => Nat.ne_of_lt (Heap.lt_size (hk b o e))) fun b o e => keep1 b o (hk b o e)) fun out hp => ⟨_, rfl, ?_⟩) (args_list_sort _)))
  refine wpAny_pure ⟨_, rfl, ?_⟩
  obtain ⟨c, hc⟩ := sortedHeap_at (vs := vs) (out := (out.map fun i => vs.getD i Value.none).toArray) hoL
  refine h h1 _ _ _ out c hp hk (Nat.le_refl _) (fun b o e => ?_) hc
  have hb : b < h1.objs.size := Heap.lt_size e
  rw [sortedHeap_old (Nat.ne_of_lt hb) (by rw [Heap.size_push]; exact Nat.lt_succ_of_lt hb)]
  exact keep1 b o e
end SortT
namespace L2
open PySem PySem.Spec PyProof.Rows
theorem lex_irrefl : ∀ a : List Int, HT.lexLt a a = false
  | [] => rfl
  | x :: r => by rw [HT.lexLt_cons, if_pos rfl]; exact lex_irrefl r
theorem lex_trans : ∀ a b c : List Int, HT.lexLt a b = true → HT.lexLt b c = true → HT.lexLt a c = true
  | [], [], _, h, _ => by cases h
  | [], _ :: _, [], _, h => by cases h
  | [], _ :: _, _ :: _, _, _ => rfl
  | _ :: _, [], _, h, _ => by cases h
  | _ :: _, _ :: _, [], _, h => by cases h
  | x :: a, y :: b, z :: c, h1, h2 => by
    rw [HT.lexLt_cons] at h1 h2 ⊢
    by_cases e1 : x = y
    · subst e1
      rw [if_pos rfl] at h1
      by_cases e2 : x = z
      · subst e2
        rw [if_pos rfl] at h2 ⊢
        exact lex_trans a b c h1 h2
      · rw [if_neg e2] at h2 ⊢; exact h2
    · rw [if_neg e1] at h1
      have l1 : x < y := of_decide_eq_true h1
      by_cases e2 : y = z
      · subst e2; rw [if_neg e1]; exact h1
      · rw [if_neg e2] at h2
        have l2 : y < z := of_decide_eq_true h2
        rw [if_neg om]
        exact decide_eq_true om
theorem lex_total : ∀ a b : List Int, HT.lexLt a b = false → HT.lexLt b a = false → a = b
  | [], [], _, _ => rfl
  | [], _ :: _, h, _ => by cases h
  | _ :: _, [], _, h => by cases h
  | x :: a, y :: b, h1, h2 => by
    rw [HT.lexLt_cons] at h1 h2
    by_cases e : x = y
    · subst e
      rw [if_pos rfl] at h1 h2
      rw [lex_total a b h1 h2]
    · rw [if_neg e] at h1
      rw [if_neg (Ne.symm e)] at h2
      have l1 := of_decide_eq_false h1
      have l2 := of_decide_eq_false h2
      (first | lia | omega)
theorem lex_neg (a b c : List Int) (h : HT.lexLt a c = true) : HT.lexLt a b = true ∨ HT.lexLt b c = true := by
  cases h1 : HT.lexLt a b with
  | true => exact .inl rfl
  | false =>
    cases h2 : HT.lexLt b a with
    | true => exact .inr (lex_trans b a c h2 h)
    | false => rw [← lex_total a b h1 h2]; exact .inr h
noncomputable def lexO : KeyOrd := ⟨List Int, HT.lexLt, lex_irrefl, lex_trans, lex_neg, lex_total⟩
noncomputable def Rises (ms : List (List Int)) : Prop := ms.Pairwise fun a b => HT.lexLt b a = false
noncomputable def TupsAre (H : Hp) : List V → List (List Int) → Prop
  | [], [] => True
  | x :: xs, k :: ks => (∃ a, x = .ref a ∧ H a = some (.tup (k.map V.int)) ∧ k ≠ []) ∧ TupsAre H xs ks
  | _, _ => False
theorem TupsAre.length {H : Hp} : ∀ {xs : List V} {ks : List (List Int)}, TupsAre H xs ks → xs.length = ks.length
  | [], [], _ => rfl
  | [], _ :: _, h => h.elim
  | _ :: _, [], h => h.elim
  | _ :: _, _ :: _, h => by rw [List.length_cons, List.length_cons, TupsAre.length h.2]
theorem TupsAre.get {H : Hp} : ∀ {xs : List V} {ks : List (List Int)} {i : Nat} {x : V}, TupsAre H xs ks → xs[i]? = some x → ∃ a k, x = .ref a ∧ ks[i]? = some k ∧ H a = some (.tup (k.map V.int)) ∧ k ≠ []
  | [], _, _, _, _, h => by simp at h
  | _ :: _, [], _, _, h, _ => h.elim
  | y :: _, k :: _, 0, x, h, e => by
    obtain ⟨⟨a, h1, h2, h3⟩, -⟩ := h
    have e' : y = x := by simpa using e
    subst e'
    exact ⟨a, k, h1, rfl, h2, h3⟩
  | _ :: _, _ :: _, i + 1, x, h, e => by
    obtain ⟨a, k, h1, h2, h3⟩ := TupsAre.get (i := i) h.2 (by simpa using e)
    exact ⟨a, k, h1, by simpa using h2, h3⟩
theorem TupsAre.mk {H : Hp} : ∀ {xs : List V} {ks : List (List Int)}, xs.length = ks.length → (∀ (i : Nat) (x : V) (k : List Int), xs[i]? = some x → ks[i]? = some k → ∃ a, x = V.ref a ∧ H a = some (.tup (k.map V.int)) ∧ k ≠ []) → TupsAre H xs ks
  | [], [], _, _ => trivial
  | [], _ :: _, e, _ => by simp at e
  | _ :: _, [], e, _ => by simp at e
  | x :: xs, k :: ks, e, h => ⟨h 0 x k rfl rfl, TupsAre.mk (by simpa using e) fun i x' k' h1 h2 => h (i + 1) x' k' (by simpa using h1) (by simpa using h2)⟩
theorem TupsAre.keep {H H' : Hp} {xs : List V} {ks : List (List Int)} (h : TupsAre H xs ks) (k : ∀ b ys, H b = some (.tup ys) → H' b = some (.tup ys)) : TupsAre H' xs ks :=
  TupsAre.mk h.length fun i x c h1 h2 => by
    obtain ⟨a, c', e1, e2, e3, e4⟩ := h.get h1
    rw [h2] at e2
    cases e2
    exact ⟨a, e1, k a _ e3, e4⟩
theorem TupsAre.snoc {H : Hp} : ∀ {xs : List V} {ks : List (List Int)} {x : V} {k : List Int}, TupsAre H xs ks → (∃ a, x = .ref a ∧ H a = some (.tup (k.map V.int)) ∧ k ≠ []) → TupsAre H (xs ++ [x]) (ks ++ [k])
  | [], [], _, _, _, h => ⟨h, trivial⟩
  | [], _ :: _, _, _, t, _ => t.elim
  | _ :: _, [], _, _, t, _ => t.elim
  | _ :: _, _ :: _, _, _, t, h => ⟨t.1, TupsAre.snoc t.2 h⟩
section
variable {prog : Program} {w : World} {A : Around} {s : Shared}
theorem katLex_ints {fin : Bool} {Q : Bool → Shared → Prop} : ∀ (ns ms : List Int) (us ws : List Value) (i : Nat), IntsAre us ns → IntsAre ws ms → fin = decide (ns.length < ms.length) → Q (HT.lexLt ns ms) s →
    PySem.W.KatLex prog w A true fin Q (us.zip ws) i s := by
  intro ns
  induction ns with
  | nil =>
    intro ms us ws i hu hw e q
    cases hu
    subst e
    cases hw <;> exact q
  | cons n ns ih =>
    intro ms us ws i hu hw e q
    cases hu with
    | cons _ t hu =>
      cases hw with
      | nil => subst e; exact q
      | cons m u hw =>
        rw [HT.lexLt_cons] at q
        refine PySem.W.kat_cons (wpAny_eqBool_int ?_)
        by_cases h : n = m
        · rw [if_pos h] at q
          rw [show (n == m) = true by simpa using h]
          exact PySem.W.kat_yes (ih _ _ _ (i + 1) hu hw (by rw [e]; simp) q)
        · rw [if_neg h] at q
          rw [show (n == m) = false by simpa using h]
          refine PySem.W.kat_no ?_
          cases i with
          | zero => exact oneLt_int q
          | succ j => exact PySem.W.kat_one _ _ (PyProof.Rows.lt_int q)
theorem asks_tups {X : Cx} {pins : List (Addr × Obj)} {σ : St} {H : Hp} {s s' : Shared} {a : Addr} {ys : List V} {ks : List (List Int)} {vs : List Value} {A : Around} (I : Inv X pins σ H s) (T : TupsAre H ys ks) (r : Vals ys vs) (hne : 0 < vs.length)
    (fa : ∀ b o, s.heap.get? b = some o → b ≠ a) (kp : ∀ b o, s.heap.get? b = some o → s'.heap.get? b = some o) : SortT.Asks X.prog X.w A s' a vs (O := lexO) (fun i => ks.getD i []) (tuples' true) := by
  have hl := T.length
  have hv := r.length
  have at_ : ∀ (h' : Heap), (∀ b o, b ≠ a → s'.heap.get? b = some o → h'.get? b = some o) → ∀ i, i < vs.length → ∃ (p : Addr) (k : List Int) (us : List Value) (o : Obj) (n : Nat), vs[i]? = some (Value.ref p) ∧ ks[i]? = some k ∧ k ≠ [] ∧ IntsAre us k ∧ h'.get? p = some o ∧ o.cls = .type "tuple" ∧ o.data = .seq us.toArray n := fun h' kh i hi => by
    have hy : i < ys.length := by first | lia | omega
    obtain ⟨p, k, e1, e2, e3, e4⟩ := T.get (i := i) (x := ys[i]) (by simp [hy])
    obtain ⟨u, hu, ru⟩ := r.get (i := i) (x := ys[i]) (by simp [hy])
    rw [e1] at ru
    cases (show u = Value.ref p from ru)
    obtain ⟨_, its, rv, o, ho, hc, n, hd⟩ := I.hok p _ e3
    exact ⟨p, k, its, o, n, hu, e2, e4, intsAre_of rv, kh p o (fa p o ho) (kp p o ho), hc, hd⟩
  refine ⟨fun h' Q E kh q => ?_, fun h' i j Q E kh hi hj q => ?_⟩
  · -- all keys are tuples whose first items are ints
    have tups : ∀ (m : Nat), m ≤ vs.length → ∃ fs : List Value, PySem.W.KatTups h' (vs.drop (vs.length - m)) fs ∧ fs.length = m ∧ ∀ f ∈ fs, ∃ x t, f = Value.int x t := by
      intro m
      induction m with
      | zero => intro _; exact ⟨[], by rw [Nat.sub_zero, List.drop_length]; exact trivial, rfl, fun f hf => by simp at hf⟩
      | succ m ih =>
        intro hm
        obtain ⟨fs, t, e, hf⟩ := ih om
        obtain ⟨p, k, us, o, n, hu, hk, hk0, hI, ho, hc, hd⟩ := at_ h' kh (vs.length - (m + 1)) om
        have ed : vs.drop (vs.length - (m + 1)) = Value.ref p :: vs.drop (vs.length - m) := by
          have hlt : vs.length - (m + 1) < vs.length := by first | lia | omega
          rw [List.drop_eq_getElem_cons hlt, show vs.length - (m + 1) + 1 = vs.length - m by first | lia | omega]
          have : vs[vs.length - (m + 1)] = Value.ref p := by
            rw [List.getElem?_eq_getElem hlt] at hu
            exact Option.some.inj hu
          rw [this]
        cases hI with
        | nil => exact absurd rfl hk0
        | cons x tx hI' =>
          refine ⟨Value.int x tx :: fs, by rw [ed]; exact PySem.W.KatTups.cons ho hc hd rfl t, by rw [List.length_cons, e], fun f hf' => ?_⟩
          rcases List.mem_cons.mp hf' with rfl | hf'
          · exact ⟨x, tx, rfl⟩
          · exact hf f hf'
    obtain ⟨fs, t, e, hf⟩ := tups vs.length (Nat.le_refl _)
    rw [Nat.sub_self, List.drop_zero] at t
    refine PySem.W.kat_kind (T := Value.type "int") t om (fun v hv => ?_) (by rfl) q
    obtain ⟨x, tx, rfl⟩ := hf v hv
    exact PySem.W.Looks.of_pure rfl
  · obtain ⟨p, k, us, o, n, hu, hk, _, hI, ho, hc, hd⟩ := at_ h' kh i hi
    obtain ⟨p2, k2, us2, o2, n2, hu2, hk2, _, hI2, ho2, hc2, hd2⟩ := at_ h' kh j hj
    have e1 : vs.getD i Value.none = .ref p := by rw [List.getD_eq_getElem?_getD, hu]; rfl
    have e2 : vs.getD j Value.none = .ref p2 := by rw [List.getD_eq_getElem?_getD, hu2]; rfl
    have g1 : ks.getD i [] = k := by rw [List.getD_eq_getElem?_getD, hk]; rfl
    have g2 : ks.getD j [] = k2 := by rw [List.getD_eq_getElem?_getD, hk2]; rfl
    rw [e1, e2]
    refine PySem.W.kat_lt (s := { s' with heap := h' }) ho hd ho2 hd2 ?_
    have q' : Q (HT.lexLt k k2) { s' with heap := h' } := by
      have : lexO.blt (ks.getD i []) (ks.getD j []) = HT.lexLt k k2 := by rw [g1, g2]; rfl
      rw [← this]; exact q
    have l1 := hI.length
    have l2 := hI2.length
    exact katLex_ints k k2 us us2 0 hI hI2 (by simp only [List.size_toArray]; rw [l1, l2]) q'
theorem put_tups {H : Hp} {ys : List V} {ks : List (List Int)} {vs : List Value} {out : List Nat} (T : TupsAre H ys ks) (r : Vals ys vs) (p : SortT.Put (O := lexO) (fun i => ks.getD i []) vs.length out) :
    ∃ zs ms, TupsAre H zs ms ∧ ms.Perm ks ∧ Rises ms ∧ Vals zs (out.map fun i => vs.getD i Value.none) ∧ zs.length = ys.length := by
  have hl := T.length
  have hv := r.length
  have hb : ∀ i ∈ out, i < vs.length := fun i hi => List.mem_range.mp (p.perm.mem_iff.mp hi)
  refine ⟨out.map fun i => ys.getD i .non, out.map fun i => ks.getD i [], TupsAre.mk (by rw [List.length_map, List.length_map]) fun j x k hx hk => ?_, ?_, ?_, ?_, ?_⟩
  · rw [List.getElem?_map] at hx hk
    cases e : out[j]? with
    | none => rw [e] at hx; cases hx
    | some i =>
      rw [e] at hx hk
      have hi := hb i (List.mem_of_getElem? e)
      have hy : i < ys.length := by first | lia | omega
      obtain ⟨a, c, e1, e2, e3, e4⟩ := T.get (i := i) (x := ys[i]) (by simp [hy])
      have ex : ys.getD i .non = x := Option.some.inj hx
      have ek : ks.getD i [] = k := Option.some.inj hk
      rw [List.getD_eq_getElem?_getD, List.getElem?_eq_getElem hy] at ex
      rw [List.getD_eq_getElem?_getD, e2] at ek
      have ex' : ys[i] = x := ex
      have ek' : c = k := ek
      subst ek'
      exact ⟨a, by rw [← ex']; exact e1, e3, e4⟩
  · have h1 := p.perm.map fun i => ks.getD i []
    have h2 : (List.range vs.length).map (fun i => ks.getD i []) = ks := by
      rw [show vs.length = ks.length by first | lia | omega]
      apply List.ext_getElem?
      intro j
      rw [List.getElem?_map]
      by_cases hj : j < ks.length
      · rw [List.getElem?_range hj, List.getElem?_eq_getElem hj]; simp [hj]
      · rw [List.getElem?_eq_none (by rw [List.length_range]; (first | lia | omega)), List.getElem?_eq_none om]; rfl
    rw [h2] at h1
    exact h1
  · refine List.pairwise_iff_getElem.mpr fun i j hi hj hij => ?_
    rw [List.length_map] at hi hj
    have := p.rise i j out[i] out[j] (Nat.le_of_lt hij) (by simp) (by simp)
    have h3 : HT.lexLt (ks.getD out[j] []) (ks.getD out[i] []) = false := this
    simpa using h3
  · have : ∀ l : List Nat, (∀ i ∈ l, i < vs.length) → Vals (l.map fun i => ys.getD i .non) (l.map fun i => vs.getD i Value.none) := by
      intro l
      induction l with
      | nil => intro _; exact .nil
      | cons i l ih =>
        intro h
        have hi := h i List.mem_cons_self
        have hy : i < ys.length := by first | lia | omega
        obtain ⟨u, hu, ru⟩ := r.get (i := i) (x := ys[i]) (by simp [hy])
        refine .cons ?_ (ih fun j hj => h j (List.mem_cons_of_mem _ hj))
        show RelV (ys.getD i V.non) (vs.getD i Value.none)
        rw [List.getD_eq_getElem?_getD, List.getElem?_eq_getElem hy, List.getD_eq_getElem?_getD, hu]
        exact ru
    exact this out hb
  · rw [List.length_map, p.perm.length_eq, List.length_range]; (first | lia | omega)
theorem sorted_fin {X : Cx} {pins : List (Addr × Obj)} {σ : St} {H : Hp} {s : Shared} {h' : Heap} {D : Addr} {c t' : Nat} {zs : List V} {us : List Value} (I : Inv X pins σ H s) (hD : s.heap.objs.size ≤ D) (kp : ∀ b o, s.heap.get? b = some o → h'.get? b = some o)
    (ho : h'.get? D = some (seqObj "list" us.toArray c)) (r : Vals zs us) (hz : zs.length ≤ sizeLine) : Inv X pins σ (upd H D (.lst zs)) { s with heap := h', toks := t' } :=
  I.laid kp hD (show ObjOk X.prog X.w _ _ _ (.lst zs) from ⟨hz, us, c, r, ho⟩)
end
section
variable {X : Cx}
inductive rc_4 (K : PySem.W.Frag) (xs : List V) (H : Hp) (Q : VK) : Prop
  | mk : ∀ p ys ks, (xs = [.ref p]) → (SqL K H p ys) → (TupsAre H ys ks) → (ks.length < 64) → (∀ l zs ms, H l = none → TupsAre H zs ms → ms.Perm ks → Rises ms → Q (.ref l) (upd H l (.lst zs))) → rc_4 K xs H Q
theorem call_sorted : CallR X (.builtin "sorted") (rc_4 X.K) := by
  intro pins s σ H xs us Q I r h
  obtain ⟨p, ys, ks, rfl, hq, T, h64, q⟩ := h
  obtain ⟨u, rfl, rx⟩ := vals1 r
  cases rx
  obtain ⟨its, r', pl, hz⟩ := I.list hq
  have hl := T.length
  have hv := r'.length
  refine SortT.sorted_list (O := lexO) (key := fun i => ks.getD i []) (κ := tuples' true) pl.isList om (fun h2 s' a fa kp => asks_tups I T r' om fa kp) fun D h' out c pt hD kp ho => ?_
  obtain ⟨zs, ms, T2, hp, hr, rz, hlz⟩ := put_tups T r' pt
  exact ⟨.ref D, _, sorted_fin (t' := s.toks) I hD kp ho rz om, rfl, q D zs ms (I.hok.fresh hD) T2 hp hr⟩
inductive rc_5 (xs : List V) (H : Hp) (Q : VK) : Prop
  | mk : ∀ p kvs ks, (xs = [.ref p]) → (H p = some (.dT kvs)) → (kvs.map (·.1) = ks.map (List.map Sum.inl)) → ((∀ k ∈ ks, k ≠ [])) → (ks.length < 64) → (∀ l zs ms, H l = none → TupsAre H zs ms → ms.Perm ks → Rises ms → Q (.ref l) (upd H l (.lst zs))) → rc_5 xs H Q
theorem call_sortedD (hc : X.calm = true) : CallR X (.builtin "sorted") rc_5 := by
  intro pins s σ H xs us Q I r h
  obtain ⟨p, kvs, ks, rfl, hd, hks, hk0, h64, q⟩ := h
  obtain ⟨u, rfl, rx⟩ := vals1 r
  cases rx
  obtain ⟨hz, lo, xs, rel, o, es, ep, ho, hx, hdat, hes, hnd⟩ := I.hok p _ hd
  have key : ∀ (kvs : List (List Key × V)) (xs : List (List Key × Addr × Value)) (ks : List (List Int)), KT H kvs xs → kvs.map (·.1) = ks.map (List.map Sum.inl) → (∀ k ∈ ks, k ≠ []) →
      TupsAre H (xs.map fun q => V.ref q.2.1) ks ∧ Vals (xs.map fun q => V.ref q.2.1) ((xs.map (entryOfKey (tupleKind (mixKind X.prog X.w)))).map (·.key)) := by
    intro kvs xs ks rel
    induction rel generalizing ks with
    | nil =>
      intro e _
      cases ks with
      | nil => exact ⟨trivial, .nil⟩
      | cons k ks => simp at e
    | cons hpq _ ih =>
      intro e h0
      cases ks with
      | nil => simp at e
      | cons k ks =>
        simp only [List.map_cons, List.cons.injEq] at e
        obtain ⟨T, V⟩ := ih ks e.2 fun c hc => h0 c (List.mem_cons_of_mem _ hc)
        obtain ⟨e1, e2, -⟩ := hpq
        refine ⟨⟨⟨_, rfl, ?_, h0 k List.mem_cons_self⟩, T⟩, .cons rfl V⟩
        rw [e2, e.1, List.map_map]
        rfl
  obtain ⟨T, rv⟩ := key kvs xs ks rel hks hk0
  have hl := T.length
  have hv := rv.length
  have evs : (xs.map (entryOfKey (tupleKind (mixKind X.prog X.w)))).map (·.key) = es.toList.map (·.key) := by rw [hes]
  refine SortT.sorted_dict (O := lexO) (key := fun i => ks.getD i []) (κ := tuples' true) (vs := (xs.map (entryOfKey (tupleKind (mixKind X.prog X.w)))).map (·.key)) (I.ok.hd hc) lo ⟨o, ho, hx, hdat⟩ evs om (fun h2 s' a fa kp => asks_tups I T rv om fa kp) fun h1 D h' t' out c pt k1 hD k2 ho => ?_
  obtain ⟨zs, ms, T2, hp, hr, rz, hlz⟩ := put_tups T rv pt
  have I1 : Inv X pins σ H { s with heap := h1, toks := s.toks } := I.kept k1
  refine ⟨.ref D, _, sorted_fin (s := { s with heap := h1, toks := s.toks }) (t' := t') I1 hD k2 ho rz ?_, rfl, q D zs ms (I1.hok.fresh hD) T2 hp hr⟩
  have : sizeLine = 16777216 := rfl
  (first | lia | omega)
end
end L2
namespace L2
open PySem PySem.Spec PyProof.Rows
mutual
inductive Shows (H : Hp) : V → PyData → Prop
  | non : Shows H .non .none
  | bl (b : Bool) : Shows H (.bl b) (.bool b)
  | int (i : Int) : Shows H (.int i) (.int i)
  | str (x : Str) : Shows H (.str x) (.str x)
  | tup {a : Addr} {xs : List V} {ds : List PyData} : H a = some (.tup xs) → ShowsAll H xs ds → Shows H (.ref a) (.tuple ds)
  | lst {a : Addr} {xs : List V} {ds : List PyData} : H a = some (.lst xs) → ShowsAll H xs ds → Shows H (.ref a) (.list ds)
inductive ShowsAll (H : Hp) : List V → List PyData → Prop
  | nil : ShowsAll H [] []
  | cons {x : V} {xs : List V} {d : PyData} {ds : List PyData} : Shows H x d → ShowsAll H xs ds → ShowsAll H (x :: xs) (d :: ds)
end
section
variable {P : Program} {w : World} {H : Hp} {h : Heap}
theorem Shows.reads (ok : HOk P w H h) {x : V} {d : PyData} (s : Shows H x d) : ∀ {u : Value}, RelV x u → ∃ as, Reads h u d as := by
  refine Shows.rec (motive_1 := fun x d _ => ∀ {u : Value}, RelV x u → ∃ as, Reads h u d as) (motive_2 := fun xs ds _ => ∀ {us : List Value}, Vals xs us → ∃ as, ReadsAll h us ds as) ?_ ?_ ?_ ?_ ?_ ?_ ?_ ?_ s
  · intro u r; cases (show u = Value.none from r); exact ⟨_, .none⟩
  · intro b u r; cases (show u = Value.bool b from r); exact ⟨_, .bool b⟩
  · intro i u r; obtain ⟨t, rfl⟩ := r; exact ⟨_, .int i t⟩
  · intro x u r; obtain ⟨t, rfl⟩ := r; exact ⟨_, .str x t⟩
  · intro a xs ds e _ ih u r
    cases (show u = Value.ref a from r)
    obtain ⟨_, its, rv, o, ho, hc, n, hd⟩ := ok a _ e
    obtain ⟨as, ra⟩ := ih rv
    exact ⟨_, .tuple ho hc hd (by simpa using ra)⟩
  · intro a xs ds e _ ih u r
    cases (show u = Value.ref a from r)
    obtain ⟨_, its, n, rv, ho⟩ := ok a _ e
    obtain ⟨as, ra⟩ := ih rv
    exact ⟨_, .list ho rfl rfl (by simpa using ra)⟩
  · intro us r; cases r; exact ⟨_, .nil⟩
  · intro x xs d ds _ _ i1 i2 us r
    cases r with
    | cons r1 r2 =>
      obtain ⟨a1, h1⟩ := i1 r1
      obtain ⟨a2, h2⟩ := i2 r2
      exact ⟨_, .cons h1 h2⟩
end
section
variable {X : Cx}
end
end L2
namespace L2
open PySem PySem.Spec PyProof.Rows
section
variable {X : Cx} {es xs : List Expr} {t t1 : TA}
theorem pa_int {i j pos} (hr : PA X es t) : PA X (.Constant (.int i) j pos :: es) (tCons (tC (.int i)) t) := pa_cons pe_int hr (by rfl)
theorem pa_lst {pos} (h : PA X xs t1) (hr : PA X es t) : PA X (.List xs pos :: es) (tCons (tLst t1) t) := pa_cons (pe_lst h) hr (by rfl)
end
inductive LitInts : List Expr → List Int → Prop where
  | nil : LitInts [] []
  | cons {i : Int} {j : Nat} {pos : Pos} {es : List Expr} {ns : List Int} : LitInts es ns → LitInts (.Constant (.int i) j pos :: es) (i :: ns)
theorem pa_lits {X : Cx} {es : List Expr} {ns : List Int} (h : LitInts es ns) : PA X es (fun _ H Q => Q (ns.map V.int) H) := by
  induction h with
  | nil => exact pa_nil
  | cons _ ih =>
    intro pos pins s σ H Q I q
    exact (pa_int ih) pos pins s σ H Q I q
inductive LitIntss : List Expr → List (List Int) → Prop where
  | nil : LitIntss [] []
  | cons {xs : List Expr} {ns : List Int} {pos : Pos} {es : List Expr} {nss : List (List Int)} : LitInts xs ns → ns.length ≤ sizeLine → LitIntss es nss → LitIntss (.List xs pos :: es) (ns :: nss)
noncomputable def tLitss : List (List Int) → TA
  | [] => tNil
  | ns :: r => fun σ H Q => ∀ p, H p = none → tLitss r σ (upd H p (.lst (ns.map V.int))) fun xs H2 => Q (.ref p :: xs) H2
theorem pa_litss {X : Cx} {es : List Expr} {nss : List (List Int)} (h : LitIntss es nss) : PA X es (tLitss nss) := by
  induction h with
  | nil => exact pa_nil
  | cons hx hl _ ih =>
    intro pos pins s σ H Q I q
    exact (pa_lst (pa_lits hx) ih) pos pins s σ H Q I ⟨by rw [List.length_map]; exact hl, fun p hp => q p hp⟩
end L2
namespace WM
theorem nd_sub {α : Type} [DecidableEq α] : ∀ {l₁ l₂ : List α}, l₁.Nodup → (∀ x ∈ l₁, x ∈ l₂) → l₁.length ≤ l₂.length
  | [], _, _, _ => Nat.zero_le _
  | x :: r, l₂, h, s => by
    obtain ⟨h1, h2⟩ := List.nodup_cons.mp h
    have hx : x ∈ l₂ := s x List.mem_cons_self
    have ih := nd_sub (l₁ := r) (l₂ := l₂.erase x) h2 fun y hy => by
      have hne : y ≠ x := fun e => h1 (e ▸ hy)
      exact (List.mem_erase_of_ne hne).mpr (s y (List.mem_cons_of_mem _ hy))
    rw [List.length_erase_of_mem hx] at ih
    have : 0 < l₂.length := List.length_pos_of_mem hx
    rw [List.length_cons]
    (first | lia | omega)
noncomputable def lowTo (n : Nat) : List Int := (List.range n).map fun (i : Nat) => (i : Int)
theorem mem_ints {n : Nat} {x : Int} : x ∈ lowTo n ↔ 0 ≤ x ∧ x < n := by
  unfold lowTo
  rw [List.mem_map]
  constructor
  · rintro ⟨i, hi, rfl⟩
    have := List.mem_range.mp hi
    (first | lia | omega)
  · rintro ⟨h0, h1⟩
    exact ⟨x.toNat, List.mem_range.mpr om, om⟩
theorem nd_len {n : Nat} {l : List Int} (h : l.Nodup) (hb : ∀ x ∈ l, 0 ≤ x ∧ x < n) : l.length ≤ n := by
  have := nd_sub h (l₂ := lowTo n) fun x hx => mem_ints.mpr (hb x hx)
  simpa [lowTo] using this
theorem ints_rise (n : Nat) : (lowTo n).Pairwise (· < ·) := by
  unfold lowTo
  rw [List.pairwise_map]
  exact List.pairwise_lt_range.imp fun h => by first | lia | omega
noncomputable abbrev T3 := Int × Int × Int
noncomputable def tl (t : T3) : List Int := [t.1, t.2.1, t.2.2]
structure GW (n : Int) (ts : List T3) : Prop where
  n1 : 1 ≤ n
  n24 : n ≤ 24
  len : ts.length < 64
  rng : ∀ t ∈ ts, 0 ≤ t.1 ∧ t.1 < t.2.1 ∧ t.2.1 < n ∧ 1 ≤ t.2.2 ∧ t.2.2 ≤ 99
  dis : ts.Pairwise fun s t => ¬ (s.1 = t.1 ∧ s.2.1 = t.2.1)
noncomputable def Adj (ts : List T3) (x y l : Int) : Prop := (x, y, l) ∈ ts ∨ (y, x, l) ∈ ts
theorem Adj.symm {ts : List T3} {x y l : Int} (h : Adj ts x y l) : Adj ts y x l := h.elim .inr .inl
theorem GW.uniq {n : Int} {ts : List T3} (g : GW n ts) {x y l l' : Int} (h : Adj ts x y l) (h' : Adj ts x y l') : l = l' := by
  have key : ∀ {ts : List T3}, ts.Pairwise (fun s t => ¬ (s.1 = t.1 ∧ s.2.1 = t.2.1)) → ∀ {a b l l' : Int}, (a, b, l) ∈ ts → (a, b, l') ∈ ts → l = l' := by
    intro ts
    induction ts with
    | nil => intro _ a b l l' h; simp at h
    | cons t r ih =>
      intro hp a b l l' h h'
      obtain ⟨q, hr⟩ := List.pairwise_cons.mp hp
      rcases List.mem_cons.mp h with e | e
      · rcases List.mem_cons.mp h' with e' | e'
        · rw [← e] at e'; injection e' with _ e2; injection e2 with _ e3; exact e3.symm
        · exact absurd (by rw [← e]; exact ⟨rfl, rfl⟩) (q _ e')
      · rcases List.mem_cons.mp h' with e' | e'
        · exact absurd (by rw [← e']; exact ⟨rfl, rfl⟩) (q _ e)
        · exact ih hr e e'
  rcases h with h | h <;> rcases h' with h' | h'
  · exact key g.dis h h'
  · have := g.rng _ h; have := g.rng _ h'; simp only at *; (first | lia | omega)
  · have := g.rng _ h; have := g.rng _ h'; simp only at *; (first | lia | omega)
  · exact key g.dis h h'
theorem GW.adj {n : Int} {ts : List T3} (g : GW n ts) {x y l : Int} (h : Adj ts x y l) : 0 ≤ x ∧ x < n ∧ 0 ≤ y ∧ y < n ∧ x ≠ y ∧ 1 ≤ l ∧ l ≤ 99 := by
  rcases h with h | h <;> (have := g.rng _ h; simp only at *; (first | lia | omega))
noncomputable def fd (p : Int) : List T3 → List (List Int)
  | [] => []
  | t :: r => (if t.1 = p then [[t.2.1, t.2.2]] else []) ++ (if t.2.1 = p then [[t.1, t.2.2]] else []) ++ fd p r
theorem fd_append (p : Int) : ∀ a b : List T3, fd p (a ++ b) = fd p a ++ fd p b
  | [], b => rfl
  | t :: r, b => by show _ ++ _ ++ fd p (r ++ b) = _; rw [fd_append p r b]; simp [fd, List.append_assoc]
theorem mem_fd {p : Int} {k : List Int} : ∀ {ts : List T3}, k ∈ fd p ts ↔ ∃ y l, k = [y, l] ∧ Adj ts p y l
  | [] => by simp [fd, Adj]
  | (a, b, c) :: r => by
    have ih := mem_fd (p := p) (k := k) (ts := r)
    show k ∈ _ ++ _ ++ fd p r ↔ _
    rw [List.mem_append, List.mem_append, ih]
    simp only
    constructor
    · rintro ((h | h) | ⟨y, l, e, h⟩)
      · split at h
        · rename_i e; simp at h; subst e; exact ⟨b, c, h, .inl List.mem_cons_self⟩
        · simp at h
      · split at h
        · rename_i e; simp at h; subst e; exact ⟨a, c, h, .inr List.mem_cons_self⟩
        · simp at h
      · exact ⟨y, l, e, h.elim (fun z => .inl (List.mem_cons_of_mem _ z)) fun z => .inr (List.mem_cons_of_mem _ z)⟩
    · rintro ⟨y, l, e, h⟩
      rcases h with h | h
      · rcases List.mem_cons.mp h with q | q
        · injection q with q1 q2; injection q2 with q2 q3; subst q1 q2 q3
          exact .inl (.inl (by simp [e]))
        · exact .inr ⟨y, l, e, .inl q⟩
      · rcases List.mem_cons.mp h with q | q
        · injection q with q1 q2; injection q2 with q2 q3; subst q1 q2 q3
          exact .inl (.inr (by simp [e]))
        · exact .inr ⟨y, l, e, .inr q⟩
theorem fd_len {n : Int} (p : Int) : ∀ {ts : List T3}, (∀ t ∈ ts, t.1 < t.2.1) → (fd p ts).length ≤ ts.length
  | [], _ => Nat.le_refl _
  | t :: r, h => by
    have ih := fd_len (n := n) p (ts := r) fun t ht => h t (List.mem_cons_of_mem _ ht)
    have h0 := h t List.mem_cons_self
    show (_ ++ _ ++ fd p r).length ≤ _
    rw [List.length_append, List.length_append, List.length_cons]
    have : (if t.1 = p then [[t.2.1, t.2.2]] else ([] : List (List Int))).length + (if t.2.1 = p then [[t.1, t.2.2]] else ([] : List (List Int))).length ≤ 1 := by
      split <;> split <;> simp <;> (first | lia | omega)
    (first | lia | omega)
noncomputable def hd (k : List Int) : Int := k.getD 0 0
theorem fd_heads {n : Int} {ts : List T3} (g : GW n ts) (p : Int) : ((fd p ts).map hd).Nodup := by
  have key : ∀ (ts : List T3), (∀ t ∈ ts, t.1 < t.2.1) → ts.Pairwise (fun s t => ¬ (s.1 = t.1 ∧ s.2.1 = t.2.1)) → ((fd p ts).map hd).Nodup := by
    intro ts
    induction ts with
    | nil => intro _ _; exact List.nodup_nil
    | cons t r ih =>
      intro hlt hp
      obtain ⟨q, hr⟩ := List.pairwise_cons.mp hp
      have h0 := hlt t List.mem_cons_self
      have hr' : ∀ t ∈ r, t.1 < t.2.1 := fun t ht => hlt t (List.mem_cons_of_mem _ ht)
      have ih' := ih hr' hr
      have no : ∀ y c, (∀ l, Adj r p y l → False) → ([y, c] : List Int) = [y, c] → ¬ y ∈ (fd p r).map hd := by
        intro y c hn _ hm
        obtain ⟨k, hk, e⟩ := List.mem_map.mp hm
        obtain ⟨y', l, ek, ha⟩ := mem_fd.mp hk
        subst ek
        have : y' = y := e
        subst this
        exact hn l ha
      show ((_ ++ _ ++ fd p r).map hd).Nodup
      by_cases h1 : t.1 = p
      · have h2 : ¬ t.2.1 = p := by first | lia | omega
        rw [if_pos h1, if_neg h2]
        show (t.2.1 :: (fd p r).map hd).Nodup
        refine List.nodup_cons.mpr ⟨no _ t.2.2 (fun l ha => ?_) rfl, ih'⟩
        rcases ha with ha | ha
        · exact q _ ha ⟨h1, rfl⟩
        · have := hr' _ ha; simp only at this; (first | lia | omega)
      · by_cases h2 : t.2.1 = p
        · rw [if_neg h1, if_pos h2]
          show (t.1 :: (fd p r).map hd).Nodup
          refine List.nodup_cons.mpr ⟨no _ t.2.2 (fun l ha => ?_) rfl, ih'⟩
          rcases ha with ha | ha
          · have := hr' _ ha; simp only at this; (first | lia | omega)
          · exact q _ ha ⟨rfl, h2⟩
        · rw [if_neg h1, if_neg h2]
          exact ih'
  exact key ts (fun t ht => (g.rng t ht).2.1) g.dis
end WM
namespace WM
inductive Way (ts : List T3) : Int → Int → Int → Prop where
  | nil (x : Int) : Way ts x x 0
  | cons {x z y l d : Int} : Adj ts x z l → Way ts z y d → Way ts x y (l + d)
theorem Way.nn {n : Int} {ts : List T3} (g : GW n ts) {x y d : Int} (h : Way ts x y d) : 0 ≤ d := by
  induction h with
  | nil => exact Int.le_refl _
  | cons ha _ ih => have := g.adj ha; (first | lia | omega)
theorem Way.one {ts : List T3} {x y l : Int} (h : Adj ts x y l) : Way ts x y l := by
  have := Way.cons h (.nil y)
  rwa [Int.add_zero] at this
theorem Way.trans {ts : List T3} {x y z d e : Int} (h : Way ts x y d) (h' : Way ts y z e) : Way ts x z (d + e) := by
  induction h with
  | nil => rw [Int.zero_add]; exact h'
  | cons ha _ ih => rw [Int.add_assoc]; exact .cons ha (ih h')
theorem Way.symm {ts : List T3} {x y d : Int} (h : Way ts x y d) : Way ts y x d := by
  induction h with
  | nil => exact .nil _
  | cons ha _ ih => have := ih.trans (.one ha.symm); rwa [Int.add_comm] at this
theorem Way.snoc {ts : List T3} {x y z d l : Int} (h : Way ts x y d) (ha : Adj ts y z l) : Way ts x z (d + l) := h.trans (.one ha)
noncomputable def IsD (ts : List T3) (x y d : Int) : Prop := Way ts x y d ∧ ∀ e, Way ts x y e → d ≤ e
noncomputable def Len (ts : List T3) (x y : Int) : Option Int → Prop
  | some d => IsD ts x y d
  | none => ∀ d, ¬ Way ts x y d
theorem IsD.uniq {ts : List T3} {x y d e : Int} (h : IsD ts x y d) (h' : IsD ts x y e) : d = e := Int.le_antisymm (h.2 _ h'.1) (h'.2 _ h.1)
theorem Len.uniq {ts : List T3} {x y : Int} {o o' : Option Int} (h : Len ts x y o) (h' : Len ts x y o') : o = o' := by
  cases o with
  | none =>
    cases o' with
    | none => rfl
    | some e => exact absurd h'.1 (h e)
  | some d =>
    cases o' with
    | none => exact absurd h.1 (h' d)
    | some e => exact congrArg some (IsD.uniq h h')
theorem IsD.symm {ts : List T3} {x y d : Int} (h : IsD ts x y d) : IsD ts y x d := ⟨h.1.symm, fun e he => h.2 e he.symm⟩
theorem Len.symm {ts : List T3} {x y : Int} {o : Option Int} (h : Len ts x y o) : Len ts y x o := by
  cases o with
  | none => exact fun d hd => h d hd.symm
  | some d => exact IsD.symm h
theorem isD_self {n : Int} {ts : List T3} (g : GW n ts) (x : Int) : IsD ts x x 0 := ⟨.nil x, fun _ h => h.nn g⟩
structure Dj (ts : List T3) (s : Int) (kn wt : Int → Option Int) : Prop where
  kd : ∀ p d, kn p = some d → IsD ts s p d
  wk : ∀ p d, wt p = some d → kn p = none ∧ Way ts s p d
  ord : ∀ p d q e, kn p = some d → wt q = some e → d ≤ e
  nb : ∀ p d q l, kn p = some d → Adj ts p q l → (∃ e, kn q = some e) ∨ ∃ e, wt q = some e ∧ e ≤ d + l
  st : (∃ d, kn s = some d) ∨ wt s = some 0
theorem Dj.front {n : Int} {ts : List T3} (g : GW n ts) {s : Int} {kn wt : Int → Option Int} (h : Dj ts s kn wt) {y d : Int} (w : Way ts s y d) : (∃ e, kn y = some e) ∨ ∃ q e, wt q = some e ∧ e ≤ d := by
  have key : ∀ {x y d : Int}, Way ts x y d → ∀ dx, kn x = some dx → (∃ e, kn y = some e) ∨ ∃ q e, wt q = some e ∧ e ≤ dx + d := by
    intro x y d w
    induction w with
    | nil => intro dx hx; exact .inl ⟨dx, hx⟩
    | cons ha w' ih =>
      intro dx hx
      rename_i x z y l d
      have hl := g.adj ha
      have hw := w'.nn g
      rcases h.nb x dx z l hx ha with ⟨e, he⟩ | ⟨e, he, hle⟩
      · have hez : e ≤ dx + l := (h.kd z e he).2 _ ((h.kd x dx hx).1.snoc ha)
        rcases ih e he with q | ⟨q, e', hq, hle⟩
        · exact .inl q
        · exact .inr ⟨q, e', hq, om⟩
      · exact .inr ⟨z, e, he, om⟩
  rcases h.st with ⟨ds, hs⟩ | hs
  · have : ds = 0 := IsD.uniq (h.kd s ds hs) (isD_self g s)
    subst this
    rcases key w 0 hs with q | ⟨q, e, a, b⟩
    · exact .inl q
    · exact .inr ⟨q, e, a, om⟩
  · exact .inr ⟨s, 0, hs, w.nn g⟩
theorem Dj.pick {n : Int} {ts : List T3} (g : GW n ts) {s : Int} {kn wt : Int → Option Int} (h : Dj ts s kn wt) {p d : Int} (hp : wt p = some d) (hm : ∀ q e, wt q = some e → d ≤ e) : IsD ts s p d := by
  obtain ⟨hk, hw⟩ := h.wk p d hp
  refine ⟨hw, fun e he => ?_⟩
  rcases h.front g he with ⟨e', q⟩ | ⟨q, e', hq, hle⟩
  · rw [hk] at q; cases q
  · exact Int.le_trans (hm q e' hq) hle
theorem Dj.done {n : Int} {ts : List T3} (g : GW n ts) {s : Int} {kn wt : Int → Option Int} (h : Dj ts s kn wt) (hw : ∀ q, wt q = none) (y : Int) : Len ts s y (kn y) := by
  cases e : kn y with
  | some d => exact h.kd y d e
  | none =>
    intro d w
    rcases h.front g w with ⟨e', q⟩ | ⟨q, e', hq, _⟩
    · rw [e] at q; cases q
    · rw [hw] at hq; cases hq
structure Dm (ts : List T3) (s p d : Int) (kn wt : Int → Option Int) (seen : Int → Prop) : Prop where
  kd : ∀ q e, kn q = some e → IsD ts s q e
  wk : ∀ q e, wt q = some e → kn q = none ∧ Way ts s q e
  ord : ∀ q e r f, kn q = some e → wt r = some f → e ≤ f
  nb : ∀ q e r l, kn q = some e → Adj ts q r l → (q = p ∧ ¬ seen r) ∨ (∃ f, kn r = some f) ∨ ∃ f, wt r = some f ∧ f ≤ e + l
  st : ∃ e, kn s = some e
  pd : kn p = some d
  mx : ∀ q e, kn q = some e → e ≤ d
theorem Dj.enter {n : Int} {ts : List T3} (g : GW n ts) {s : Int} {kn wt : Int → Option Int} (h : Dj ts s kn wt) {p d : Int} (hp : wt p = some d) (hm : ∀ q e, wt q = some e → d ≤ e) :
    Dm ts s p d (fun q => if q = p then some d else kn q) (fun q => if q = p then none else wt q) (fun _ => False) := by
  have hd := h.pick g hp hm
  have hk := (h.wk p d hp).1
  refine ⟨fun q e hq => ?_, fun q e hq => ?_, fun q e r f hq hr => ?_, fun q e r l hq ha => ?_, ?_, if_pos rfl, fun q e hq => ?_⟩
  · by_cases hqp : q = p
    · rw [if_pos hqp] at hq; cases hq; rw [hqp]; exact hd
    · rw [if_neg hqp] at hq; exact h.kd q e hq
  · by_cases hqp : q = p
    · rw [if_pos hqp] at hq; cases hq
    · rw [if_neg hqp] at hq ⊢; exact h.wk q e hq
  · by_cases hrp : r = p
    · rw [if_pos hrp] at hr; cases hr
    · rw [if_neg hrp] at hr
      by_cases hqp : q = p
      · rw [if_pos hqp] at hq; cases hq; exact hm r f hr
      · rw [if_neg hqp] at hq; exact h.ord q e r f hq hr
  · by_cases hqp : q = p
    · exact .inl ⟨hqp, fun z => z⟩
    · rw [if_neg hqp] at hq
      by_cases hrp : r = p
      · exact .inr (.inl ⟨d, if_pos hrp⟩)
      · rcases h.nb q e r l hq ha with ⟨f, hf⟩ | ⟨f, hf, hle⟩
        · exact .inr (.inl ⟨f, by rw [if_neg hrp]; exact hf⟩)
        · exact .inr (.inr ⟨f, by rw [if_neg hrp]; exact hf, hle⟩)
  · by_cases hsp : s = p
    · exact ⟨d, if_pos hsp⟩
    · rcases h.st with ⟨e, he⟩ | he
      · exact ⟨e, by rw [if_neg hsp]; exact he⟩
      · -- s waits with 0: then d is 0 too, and p is come to by a way of 0
        have h0 := hm s 0 he
        have := hd.1.nn g
        have hd0 : d = 0 := by first | lia | omega
        subst hd0
        exfalso
        have : ∀ {x y d : Int}, Way ts x y d → d = 0 → x = y := by
          intro x y d w
          cases w with
          | nil => intro _; rfl
          | cons ha w' => intro e; have := g.adj ha; have := w'.nn g; (first | lia | omega)
        exact hsp (this hd.1 rfl)
  · by_cases hqp : q = p
    · rw [if_pos hqp] at hq; cases hq; exact Int.le_refl _
    · rw [if_neg hqp] at hq; exact h.ord q e p d hq hp
theorem Dm.skip {ts : List T3} {s p d : Int} {kn wt : Int → Option Int} {seen : Int → Prop} (h : Dm ts s p d kn wt seen) {r : Int} (hr : ∃ f, kn r = some f) : Dm ts s p d kn wt (fun x => seen x ∨ x = r) :=
  ⟨h.kd, h.wk, h.ord, fun q e x l hq ha => by
    rcases h.nb q e x l hq ha with ⟨a, b⟩ | c
    · by_cases hx : x = r
      · subst hx; exact .inr (.inl hr)
      · exact .inl ⟨a, fun z => z.elim b hx⟩
    · exact .inr c, h.st, h.pd, h.mx⟩
theorem Dm.wait {n : Int} {ts : List T3} (g : GW n ts) {s p d : Int} {kn wt : Int → Option Int} {seen : Int → Prop} (h : Dm ts s p d kn wt seen) {r l : Int} (ha : Adj ts p r l) (hr : kn r = none) {f : Int}
    (hf : (wt r = none ∧ f = d + l) ∨ ∃ e, wt r = some e ∧ f = min (d + l) e) : Dm ts s p d kn (fun x => if x = r then some f else wt x) (fun x => seen x ∨ x = r) := by
  have hl := g.adj ha
  have hway : Way ts s r (d + l) := (h.kd p d h.pd).1.snoc ha
  have hf1 : f ≤ d + l := by
    rcases hf with ⟨_, e⟩ | ⟨e, _, e'⟩
    · (first | lia | omega)
    · (first | lia | omega)
  have hf2 : Way ts s r f := by
    rcases hf with ⟨_, rfl⟩ | ⟨e, he, rfl⟩
    · exact hway
    · by_cases hle : d + l ≤ e
      · rw [Int.min_eq_left hle]; exact hway
      · rw [Int.min_eq_right om]; exact (h.wk r e he).2
  have hf3 : d ≤ f := by
    rcases hf with ⟨_, rfl⟩ | ⟨e, he, rfl⟩
    · (first | lia | omega)
    · have := h.ord p d r e h.pd he; (first | lia | omega)
  refine ⟨h.kd, fun q e hq => ?_, fun q e x y hq hx => ?_, fun q e x k hq hax => ?_, h.st, h.pd, h.mx⟩
  · by_cases hqr : q = r
    · rw [if_pos hqr] at hq; cases hq; rw [hqr]; exact ⟨hr, hf2⟩
    · rw [if_neg hqr] at hq; exact h.wk q e hq
  · by_cases hxr : x = r
    · rw [if_pos hxr] at hx; cases hx; have := h.mx q e hq; (first | lia | omega)
    · rw [if_neg hxr] at hx; exact h.ord q e x y hq hx
  · by_cases hxr : x = r
    · subst hxr
      refine .inr (.inr ⟨f, if_pos rfl, ?_⟩)
      rcases h.nb q e x k hq hax with ⟨a, _⟩ | ⟨y, hy⟩ | ⟨y, hy, hle⟩
      · subst a
        rw [h.pd] at hq; cases hq
        rw [g.uniq hax ha]; exact hf1
      · rw [hr] at hy; cases hy
      · rcases hf with ⟨e1, _⟩ | ⟨e1, he1, e2⟩
        · rw [e1] at hy; cases hy
        · rw [he1] at hy; cases hy; (first | lia | omega)
    · rcases h.nb q e x k hq hax with ⟨a, b⟩ | c | ⟨y, hy, hle⟩
      · exact .inl ⟨a, fun z => z.elim b hxr⟩
      · exact .inr (.inl c)
      · exact .inr (.inr ⟨y, by rw [if_neg hxr]; exact hy, hle⟩)
theorem Dm.leave {ts : List T3} {s p d : Int} {kn wt : Int → Option Int} {seen : Int → Prop} (h : Dm ts s p d kn wt seen) (hs : ∀ r l, Adj ts p r l → seen r) : Dj ts s kn wt :=
  ⟨h.kd, h.wk, h.ord, fun q e r l hq ha => by
    rcases h.nb q e r l hq ha with ⟨a, b⟩ | c
    · subst a; exact absurd (hs r l ha) b
    · exact c, .inl h.st⟩
inductive WayK (ts : List T3) (k : Int) : Int → Int → Int → Prop where
  | nil (x : Int) : WayK ts k x x 0
  | tie {x y l : Int} : Adj ts x y l → WayK ts k x y l
  | cons {x z y l d : Int} : Adj ts x z l → z < k → WayK ts k z y d → WayK ts k x y (l + d)
theorem WayK.way {ts : List T3} {k x y d : Int} (h : WayK ts k x y d) : Way ts x y d := by
  induction h with
  | nil => exact .nil _
  | tie ha => exact .one ha
  | cons ha _ _ ih => exact .cons ha ih
theorem Way.toK {n : Int} {ts : List T3} (g : GW n ts) {x y d : Int} (h : Way ts x y d) : WayK ts n x y d := by
  induction h with
  | nil => exact .nil _
  | cons ha _ ih => exact .cons ha (g.adj ha).2.2.2.1 ih
theorem WayK.split {n : Int} {ts : List T3} (g : GW n ts) {k x y d : Int} (h : WayK ts (k + 1) x y d) : WayK ts k x y d ∨ ∃ d1 d2, WayK ts k x k d1 ∧ WayK ts k k y d2 ∧ d1 + d2 ≤ d := by
  induction h with
  | nil => exact .inl (.nil _)
  | tie ha => exact .inl (.tie ha)
  | cons ha hz w ih =>
    rename_i x z y l d
    by_cases hk : z < k
    · rcases ih with q | ⟨d1, d2, a, b, c⟩
      · exact .inl (.cons ha hk q)
      · exact .inr ⟨l + d1, d2, .cons ha hk a, b, om⟩
    · have e : z = k := by first | lia | omega
      subst e
      rcases ih with q | ⟨d1, d2, a, b, c⟩
      · exact .inr ⟨l, d, .tie ha, q, Int.le_refl _⟩
      · have := a.way.nn g
        exact .inr ⟨l, d2, .tie ha, b, om⟩
theorem WayK.zero {n : Int} {ts : List T3} (g : GW n ts) {x y d : Int} (h : WayK ts 0 x y d) : (x = y ∧ d = 0) ∨ Adj ts x y d := by
  cases h with
  | nil => exact .inl ⟨rfl, rfl⟩
  | tie ha => exact .inr ha
  | cons ha hz _ => have := g.adj ha; (first | lia | omega)
structure Fw (ts : List T3) (n : Int) (F : Int → Int → Option Int) : Prop where
  snd : ∀ x y d, 0 ≤ x → x < n → 0 ≤ y → y < n → F x y = some d → Way ts x y d
noncomputable def Cov (ts : List T3) (n k : Int) (F : Int → Int → Option Int) : Prop := ∀ x y d, 0 ≤ x → x < n → 0 ≤ y → y < n → WayK ts k x y d → ∃ e, F x y = some e ∧ e ≤ d
theorem Fw.len {n : Int} {ts : List T3} (g : GW n ts) {F : Int → Int → Option Int} (h : Fw ts n F) (c : Cov ts n n F) {x y : Int} (hx : 0 ≤ x) (hx' : x < n) (hy : 0 ≤ y) (hy' : y < n) : Len ts x y (F x y) := by
  cases e : F x y with
  | some d =>
    refine ⟨h.snd x y d hx hx' hy hy' e, fun e' he => ?_⟩
    obtain ⟨f, hf, hle⟩ := c x y e' hx hx' hy hy' (he.toK g)
    rw [e] at hf; cases hf; exact hle
  | none =>
    intro d hd
    obtain ⟨f, hf, -⟩ := c x y d hx hx' hy hy' (hd.toK g)
    rw [e] at hf; cases hf
end WM
namespace WM
noncomputable def fnl (kn : List (Option Int)) (p : Int) : Option Int := if 0 ≤ p then kn.getD p.toNat none else none
noncomputable def cnt (kn : List (Option Int)) : Nat := (kn.filter Option.isSome).length
theorem cnt_le (kn : List (Option Int)) : cnt kn ≤ kn.length := List.length_filter_le _ _
theorem fnl_set {kn : List (Option Int)} {p : Int} {o : Option Int} (h0 : 0 ≤ p) (h1 : p.toNat < kn.length) (q : Int) : fnl (kn.set p.toNat o) q = if q = p then o else fnl kn q := by
  unfold fnl
  by_cases hq : 0 ≤ q
  · rw [if_pos hq, if_pos hq, List.getD_eq_getElem?_getD, List.getD_eq_getElem?_getD, List.getElem?_set]
    by_cases e : q = p
    · subst e; simp [h1]
    · have : ¬ p.toNat = q.toNat := by first | lia | omega
      rw [if_neg this, if_neg e]
  · rw [if_neg hq, if_neg om, if_neg hq]
theorem cnt_set : ∀ {kn : List (Option Int)} {j : Nat} {d : Int}, kn[j]? = some none → cnt (kn.set j (some d)) = cnt kn + 1
  | [], _, _, h => by simp at h
  | o :: r, 0, d, h => by
    have : o = none := by simpa using h
    subst this
    simp [cnt, List.set]
  | o :: r, j + 1, d, h => by
    have ih := cnt_set (kn := r) (j := j) (d := d) (by simpa using h)
    unfold cnt at ih ⊢
    rw [List.set_cons_succ]
    cases o with
    | none => rw [List.filter_cons_of_neg (by simp), List.filter_cons_of_neg (by simp)]; exact ih
    | some x => rw [List.filter_cons_of_pos (by simp), List.filter_cons_of_pos (by simp), List.length_cons, List.length_cons, ih]
theorem cnt_rep (n : Nat) : cnt (List.replicate n none) = 0 := by
  unfold cnt
  rw [List.filter_replicate]
  simp
theorem fnl_rep (n : Nat) (q : Int) : fnl (List.replicate n none) q = none := by
  unfold fnl
  split
  · rw [List.getD_eq_getElem?_getD, List.getElem?_replicate]
    split <;> rfl
  · rfl
structure Dl (ts : List T3) (n s : Int) (kn : List (Option Int)) (wt : Int → Option Int) : Prop where
  dj : Dj ts s (fnl kn) wt
  ln : kn.length = n.toNat
  bk : ∀ p d, fnl kn p = some d → d ≤ 99 * cnt kn
  bw : ∀ p e, wt p = some e → e ≤ 99 * cnt kn ∧ 0 ≤ p ∧ p < n
structure Dn (ts : List T3) (n s p d : Int) (kn : List (Option Int)) (wt : Int → Option Int) (seen : Int → Prop) : Prop where
  dm : Dm ts s p d (fnl kn) wt seen
  ln : kn.length = n.toNat
  bk : ∀ q e, fnl kn q = some e → e ≤ 99 * cnt kn
  bd : d + 99 ≤ 99 * cnt kn
  bw : ∀ q e, wt q = some e → e ≤ 99 * cnt kn ∧ 0 ≤ q ∧ q < n
theorem Dl.start {n : Int} {ts : List T3} (g : GW n ts) {s : Int} (h0 : 0 ≤ s) (h1 : s < n) : Dl ts n s (List.replicate n.toNat none) (fun q => if q = s then some 0 else none) := by
  refine ⟨⟨fun p d h => ?_, fun p d h => ?_, fun p d q e h => ?_, fun p d q l h => ?_, .inr (if_pos rfl)⟩, List.length_replicate, fun p d h => ?_, fun p e h => ?_⟩
  · rw [fnl_rep] at h; cases h
  · by_cases e : p = s
    · rw [if_pos e] at h; cases h; rw [e]; exact ⟨fnl_rep _ _, .nil s⟩
    · rw [if_neg e] at h; cases h
  · rw [fnl_rep] at h; cases h
  · rw [fnl_rep] at h; cases h
  · rw [fnl_rep] at h; cases h
  · by_cases e : p = s
    · rw [if_pos e] at h; cases h; rw [e, cnt_rep]; exact ⟨by simp, h0, h1⟩
    · rw [if_neg e] at h; cases h
theorem Dl.enter {n : Int} {ts : List T3} (g : GW n ts) {s : Int} {kn : List (Option Int)} {wt : Int → Option Int} (h : Dl ts n s kn wt) {p d : Int} (hp : wt p = some d) (hm : ∀ q e, wt q = some e → d ≤ e) :
    kn[p.toNat]? = some none ∧ 0 ≤ p ∧ p < n ∧ cnt (kn.set p.toNat (some d)) = cnt kn + 1 ∧ Dn ts n s p d (kn.set p.toNat (some d)) (fun q => if q = p then none else wt q) (fun _ => False) := by
  obtain ⟨hb, h0, h1⟩ := h.bw p d hp
  have hl := h.ln
  have hlt : p.toNat < kn.length := by first | lia | omega
  have hk := (h.dj.wk p d hp).1
  have hn : kn[p.toNat]? = some none := by
    unfold fnl at hk
    rw [if_pos h0, List.getD_eq_getElem?_getD, List.getElem?_eq_getElem hlt] at hk
    rw [List.getElem?_eq_getElem hlt]
    exact congrArg some hk
  have hc := cnt_set (d := d) hn
  have ef : fnl (kn.set p.toNat (some d)) = fun q => if q = p then some d else fnl kn q := funext fun q => fnl_set h0 hlt q
  refine ⟨hn, h0, h1, hc, ⟨?_, by rw [List.length_set]; exact hl, fun q e hq => ?_, by rw [hc]; (first | lia | omega), fun q e hq => ?_⟩⟩
  · rw [ef]; exact h.dj.enter g hp hm
  · rw [ef] at hq
    simp only at hq
    rw [hc]
    by_cases e' : q = p
    · rw [if_pos e'] at hq; cases hq; (first | lia | omega)
    · rw [if_neg e'] at hq; have := h.bk q e hq; (first | lia | omega)
  · by_cases e' : q = p
    · rw [if_pos e'] at hq; cases hq
    · rw [if_neg e'] at hq; have := h.bw q e hq; rw [hc]; exact ⟨om, this.2⟩
theorem Dn.skip {n : Int} {ts : List T3} {s p d : Int} {kn : List (Option Int)} {wt : Int → Option Int} {seen : Int → Prop} (h : Dn ts n s p d kn wt seen) {r f : Int} (hr : fnl kn r = some f) : Dn ts n s p d kn wt (fun x => seen x ∨ x = r) :=
  ⟨h.dm.skip ⟨f, hr⟩, h.ln, h.bk, h.bd, h.bw⟩
theorem Dn.wait {n : Int} {ts : List T3} (g : GW n ts) {s p d : Int} {kn : List (Option Int)} {wt : Int → Option Int} {seen : Int → Prop} (h : Dn ts n s p d kn wt seen) {r l : Int} (ha : Adj ts p r l) (hr : fnl kn r = none) :
    Dn ts n s p d kn (fun x => if x = r then some (if (wt r).getD (d + l) < d + l then (wt r).getD (d + l) else d + l) else wt x) (fun x => seen x ∨ x = r) := by
  have hl := g.adj ha
  have hf : (wt r = none ∧ (if (wt r).getD (d + l) < d + l then (wt r).getD (d + l) else d + l) = d + l) ∨ ∃ e, wt r = some e ∧ (if (wt r).getD (d + l) < d + l then (wt r).getD (d + l) else d + l) = min (d + l) e := by
    cases e : wt r with
    | none => exact .inl ⟨rfl, by simp⟩
    | some x =>
      refine .inr ⟨x, rfl, ?_⟩
      simp only [Option.getD_some]
      split <;> (first | lia | omega)
  refine ⟨h.dm.wait g ha hr hf, h.ln, h.bk, h.bd, fun q e hq => ?_⟩
  by_cases e' : q = r
  · rw [if_pos e'] at hq
    have hd := h.bd
    have e2 := Option.some.inj hq
    refine ⟨?_, om, om⟩
    split at e2 <;> (first | lia | omega)
  · rw [if_neg e'] at hq; exact h.bw q e hq
theorem Dn.leave {n : Int} {ts : List T3} {s p d : Int} {kn : List (Option Int)} {wt : Int → Option Int} {seen : Int → Prop} (h : Dn ts n s p d kn wt seen) (hs : ∀ r l, Adj ts p r l → seen r) : Dl ts n s kn wt :=
  ⟨h.dm.leave hs, h.ln, h.bk, h.bw⟩
structure Lens (ts : List T3) (n s : Int) (kn : List (Option Int)) : Prop where
  ln : kn.length = n.toNat
  len : ∀ y, 0 ≤ y → y < n → Len ts s y (fnl kn y)
  bd : ∀ o ∈ kn, ∀ d, o = some d → 0 ≤ d ∧ d ≤ 2376
theorem Dl.done {n : Int} {ts : List T3} (g : GW n ts) {s : Int} {kn : List (Option Int)} {wt : Int → Option Int} (h : Dl ts n s kn wt) (hw : ∀ q, wt q = none) : Lens ts n s kn := by
  refine ⟨h.ln, fun y _ _ => h.dj.done g hw y, fun o ho d e => ?_⟩
  obtain ⟨j, hj, ej⟩ := List.getElem_of_mem ho
  have hf : fnl kn (j : Int) = some d := by
    unfold fnl
    rw [if_pos om, List.getD_eq_getElem?_getD, Int.toNat_natCast, List.getElem?_eq_getElem hj, ej, e]; rfl
  have h1 := h.bk _ _ hf
  have h2 := (h.dj.kd _ _ hf).1.nn g
  have h3 := cnt_le kn
  have := h.ln
  have := g.n24
  (first | lia | omega)
end WM
namespace WM
noncomputable def oadd : Option Int → Option Int → Option Int
  | some a, some b => some (a + b)
  | _, _ => none
noncomputable def oles : Option Int → Option Int → Option Int
  | none, o => o
  | some a, none => some a
  | some a, some b => some (if b < a then b else a)
theorem WayK.mono {ts : List T3} {k k' x y d : Int} (h : WayK ts k x y d) (hk : k ≤ k') : WayK ts k' x y d := by
  induction h with
  | nil => exact .nil _
  | tie ha => exact .tie ha
  | cons ha hz _ ih => exact .cons ha om ih
structure Fm (ts : List T3) (n k : Int) (F : Int → Int → Option Int) (done : Int → Int → Prop) : Prop where
  fw : Fw ts n F
  cv : Cov ts n k F
  dn : ∀ x y d, 0 ≤ x → x < n → 0 ≤ y → y < n → done x y → WayK ts (k + 1) x y d → ∃ e, F x y = some e ∧ e ≤ d
theorem oles_le {o p : Option Int} {d : Int} (h : (∃ e, o = some e ∧ e ≤ d) ∨ ∃ e, p = some e ∧ e ≤ d) : ∃ e, oles o p = some e ∧ e ≤ d := by
  rcases h with ⟨e, rfl, h⟩ | ⟨e, rfl, h⟩
  · cases p with
    | none => exact ⟨e, rfl, h⟩
    | some b => exact ⟨_, rfl, by split <;> (first | lia | omega)⟩
  · cases o with
    | none => exact ⟨e, rfl, h⟩
    | some a => exact ⟨_, rfl, by split <;> (first | lia | omega)⟩
theorem oles_or {o p : Option Int} {d : Int} (h : oles o p = some d) : o = some d ∨ p = some d := by
  cases o with
  | none => exact .inr h
  | some a =>
    cases p with
    | none => exact .inl h
    | some b =>
      have e : (if b < a then b else a) = d := Option.some.inj h
      split at e
      · exact .inr (by rw [e])
      · exact .inl (by rw [e])
theorem oadd_some {o p : Option Int} {d : Int} (h : oadd o p = some d) : ∃ a b, o = some a ∧ p = some b ∧ a + b = d := by
  cases o with
  | none => cases h
  | some a =>
    cases p with
    | none => cases h
    | some b => exact ⟨a, b, rfl, rfl, Option.some.inj h⟩
theorem Fm.step {n : Int} {ts : List T3} (g : GW n ts) {k : Int} {F : Int → Int → Option Int} {done : Int → Int → Prop} (h : Fm ts n k F done) {a b : Int} (ha : 0 ≤ a) (ha' : a < n) (hb : 0 ≤ b) (hb' : b < n) (hk : 0 ≤ k) (hk' : k < n) :
    Fm ts n k (fun x y => if x = a ∧ y = b then oles (F a b) (oadd (F a k) (F k b)) else F x y) (fun x y => done x y ∨ (x = a ∧ y = b)) := by
  have snd : ∀ d, oles (F a b) (oadd (F a k) (F k b)) = some d → Way ts a b d := fun d hd => by
    rcases oles_or hd with e | e
    · exact h.fw.snd a b d ha ha' hb hb' e
    · obtain ⟨d1, d2, e1, e2, rfl⟩ := oadd_some e
      exact (h.fw.snd a k d1 ha ha' hk hk' e1).trans (h.fw.snd k b d2 hk hk' hb hb' e2)
  have cov1 : ∀ d, WayK ts (k + 1) a b d → ∃ e, oles (F a b) (oadd (F a k) (F k b)) = some e ∧ e ≤ d := fun d w => by
    refine oles_le ?_
    rcases w.split g with q | ⟨d1, d2, q1, q2, hle⟩
    · exact .inl (h.cv a b d ha ha' hb hb' q)
    · obtain ⟨e1, f1, l1⟩ := h.cv a k d1 ha ha' hk hk' q1
      obtain ⟨e2, f2, l2⟩ := h.cv k b d2 hk hk' hb hb' q2
      exact .inr ⟨e1 + e2, by rw [f1, f2]; rfl, om⟩
  refine ⟨⟨fun x y d hx hx' hy hy' e => ?_⟩, fun x y d hx hx' hy hy' w => ?_, fun x y d hx hx' hy hy' hd w => ?_⟩
  · by_cases c : x = a ∧ y = b
    · rw [if_pos c] at e; rw [c.1, c.2]; exact snd d e
    · rw [if_neg c] at e; exact h.fw.snd x y d hx hx' hy hy' e
  · by_cases c : x = a ∧ y = b
    · rw [if_pos c]; rw [c.1, c.2] at w; exact cov1 d (w.mono om)
    · rw [if_neg c]; exact h.cv x y d hx hx' hy hy' w
  · by_cases c : x = a ∧ y = b
    · rw [if_pos c]; rw [c.1, c.2] at w; exact cov1 d w
    · rw [if_neg c]; exact h.dn x y d hx hx' hy hy' (hd.resolve_right c) w
theorem Fm.enter {n : Int} {ts : List T3} {k : Int} {F : Int → Int → Option Int} (h : Fw ts n F) (c : Cov ts n k F) : Fm ts n k F (fun _ _ => False) := ⟨h, c, fun _ _ _ _ _ _ _ z => z.elim⟩
theorem Fm.leave {n : Int} {ts : List T3} {k : Int} {F : Int → Int → Option Int} {done : Int → Int → Prop} (h : Fm ts n k F done) (hd : ∀ x y, 0 ≤ x → x < n → 0 ≤ y → y < n → done x y) : Fw ts n F ∧ Cov ts n (k + 1) F :=
  ⟨h.fw, fun x y d hx hx' hy hy' w => h.dn x y d hx hx' hy hy' (hd x y hx hx' hy hy') w⟩
noncomputable def Ft (ts : List T3) (n : Int) (F : Int → Int → Option Int) : Prop := ∀ x y d, 0 ≤ x → x < n → 0 ≤ y → y < n → (F x y = some d ↔ (x = y ∧ d = 0) ∨ Adj ts x y d)
theorem Ft.fw {n : Int} {ts : List T3} (g : GW n ts) {F : Int → Int → Option Int} (h : Ft ts n F) : Fw ts n F ∧ Cov ts n 0 F := by
  refine ⟨⟨fun x y d hx hx' hy hy' e => ?_⟩, fun x y d hx hx' hy hy' w => ?_⟩
  · rcases (h x y d hx hx' hy hy').mp e with ⟨rfl, rfl⟩ | ha
    · exact .nil x
    · exact .one ha
  · refine ⟨d, (h x y d hx hx' hy hy').mpr ?_, Int.le_refl _⟩
    rcases w.zero g with q | q
    · exact .inl q
    · exact .inr q
theorem Ft.nil (n : Int) {F : Int → Int → Option Int} (h : ∀ x y, 0 ≤ x → x < n → 0 ≤ y → y < n → F x y = if x = y then some 0 else none) : Ft [] n F := fun x y d hx hx' hy hy' => by
  rw [h x y hx hx' hy hy']
  constructor
  · intro e
    split at e
    · rename_i c; exact .inl ⟨c, (Option.some.inj e).symm⟩
    · cases e
  · rintro (⟨rfl, rfl⟩ | ha)
    · rw [if_pos rfl]
    · rcases ha with z | z <;> simp at z
theorem Ft.put {n : Int} {pre post : List T3} {a b l : Int} (g : GW n (pre ++ (a, b, l) :: post)) {F : Int → Int → Option Int} (h : Ft pre n F) :
    Ft (pre ++ [(a, b, l)]) n (fun x y => if x = b ∧ y = a then some l else if x = a ∧ y = b then some l else F x y) := fun x y d hx hx' hy hy' => by
  have hr := g.rng (a, b, l) (by simp)
  simp only at hr
  have sub : ∀ {x y d : Int}, Adj pre x y d → Adj (pre ++ (a, b, l) :: post) x y d := fun z => z.elim (fun z => .inl (List.mem_append_left _ z)) fun z => .inr (List.mem_append_left _ z)
  have own : Adj (pre ++ (a, b, l) :: post) a b l := .inl (by simp)
  have hadj : Adj (pre ++ [(a, b, l)]) x y d ↔ Adj pre x y d ∨ (x = a ∧ y = b ∧ d = l) ∨ (x = b ∧ y = a ∧ d = l) := by
    unfold Adj
    simp only [List.mem_append, List.mem_singleton, Prod.mk.injEq]
    constructor
    · rintro ((z | z) | (z | z))
      · exact .inl (.inl z)
      · exact .inr (.inl z)
      · exact .inl (.inr z)
      · exact .inr (.inr ⟨z.2.1, z.1, z.2.2⟩)
    · rintro ((z | z) | z | z)
      · exact .inl (.inl z)
      · exact .inr (.inl z)
      · exact .inl (.inr z)
      · exact .inr (.inr ⟨z.2.1, z.1, z.2.2⟩)
  rw [hadj]
  show (if x = b ∧ y = a then some l else if x = a ∧ y = b then some l else F x y) = some d ↔ _
  by_cases c1 : x = b ∧ y = a
  · rw [if_pos c1]
    constructor
    · intro e; exact .inr (.inr (.inr ⟨c1.1, c1.2, (Option.some.inj e).symm⟩))
    · rintro (⟨e, _⟩ | z | ⟨e1, e2, e3⟩ | ⟨_, _, e3⟩)
      · (first | lia | omega)
      · have z' := sub z; rw [c1.1, c1.2] at z'; rw [g.uniq z' own.symm]
      · rw [e3]
      · rw [e3]
  · rw [if_neg c1]
    by_cases c2 : x = a ∧ y = b
    · rw [if_pos c2]
      constructor
      · intro e; exact .inr (.inr (.inl ⟨c2.1, c2.2, (Option.some.inj e).symm⟩))
      · rintro (⟨e, _⟩ | z | ⟨e1, e2, e3⟩ | ⟨_, _, e3⟩)
        · (first | lia | omega)
        · have z' := sub z; rw [c2.1, c2.2] at z'; rw [g.uniq z' own]
        · rw [e3]
        · rw [e3]
    · rw [if_neg c2, h x y d hx hx' hy hy']
      constructor
      · rintro (z | z)
        · exact .inl z
        · exact .inr (.inl z)
      · rintro (z | z | z | z)
        · exact .inl z
        · exact .inr z
        · exact absurd ⟨z.1, z.2.1⟩ c2
        · exact absurd ⟨z.1, z.2.1⟩ c1
noncomputable def mat (M : List (List (Option Int))) (x y : Int) : Option Int := if 0 ≤ x then fnl (M.getD x.toNat []) y else none
noncomputable def setm (M : List (List (Option Int))) (a b : Int) (v : Option Int) : List (List (Option Int)) := M.set a.toNat ((M.getD a.toNat []).set b.toNat v)
structure Sqm (n : Int) (M : List (List (Option Int))) : Prop where
  ln : M.length = n.toNat
  rw_ : ∀ r ∈ M, r.length = n.toNat
theorem Sqm.row {n : Int} {M : List (List (Option Int))} (h : Sqm n M) {a : Int} (ha : 0 ≤ a) (ha' : a < n) : ∃ r, M[a.toNat]? = some r ∧ M.getD a.toNat [] = r ∧ r.length = n.toNat := by
  have hl := h.ln
  have hlt : a.toNat < M.length := by first | lia | omega
  exact ⟨M[a.toNat], List.getElem?_eq_getElem hlt, by rw [List.getD_eq_getElem?_getD, List.getElem?_eq_getElem hlt]; rfl, h.rw_ _ (List.getElem_mem hlt)⟩
theorem Sqm.set {n : Int} {M : List (List (Option Int))} (h : Sqm n M) {a b : Int} {v : Option Int} (ha : 0 ≤ a) (ha' : a < n) : Sqm n (setm M a b v) := by
  obtain ⟨r, h1, h2, h3⟩ := h.row ha ha'
  refine ⟨by unfold setm; rw [List.length_set]; exact h.ln, fun q hq => ?_⟩
  unfold setm at hq
  rcases List.mem_or_eq_of_mem_set hq with z | z
  · exact h.rw_ q z
  · rw [z, List.length_set, h2, h3]
theorem mat_set {n : Int} {M : List (List (Option Int))} (h : Sqm n M) {a b : Int} {v : Option Int} (ha : 0 ≤ a) (ha' : a < n) (hb : 0 ≤ b) (hb' : b < n) {x y : Int} (hx : 0 ≤ x) (hx' : x < n) :
    mat (setm M a b v) x y = if x = a ∧ y = b then v else mat M x y := by
  obtain ⟨r, h1, h2, h3⟩ := h.row ha ha'
  have hl := h.ln
  unfold mat setm
  rw [if_pos hx, if_pos hx, List.getD_eq_getElem?_getD, List.getElem?_set]
  by_cases e : x = a
  · subst e
    rw [if_pos rfl, if_pos om, Option.getD_some, h2, fnl_set hb om]
    by_cases e2 : y = b
    · rw [if_pos e2, if_pos ⟨rfl, e2⟩]
    · rw [if_neg e2, if_neg fun z => e2 z.2]
  · rw [if_neg om, if_neg fun z => e z.1, ← List.getD_eq_getElem?_getD]
theorem Fm.congr {n : Int} {ts : List T3} {k : Int} {F G : Int → Int → Option Int} {done done' : Int → Int → Prop} (h : Fm ts n k F done) (e : ∀ x y, 0 ≤ x → x < n → 0 ≤ y → y < n → G x y = F x y) (hd : ∀ x y, 0 ≤ x → x < n → 0 ≤ y → y < n → done' x y → done x y) : Fm ts n k G done' :=
  ⟨⟨fun x y d a b c d' z => h.fw.snd x y d a b c d' (by rw [← e x y a b c d']; exact z)⟩, fun x y d a b c d' w => by rw [e x y a b c d']; exact h.cv x y d a b c d' w, fun x y d a b c d' z w => by rw [e x y a b c d']; exact h.dn x y d a b c d' (hd x y a b c d' z) w⟩
theorem Ft.congr {n : Int} {ts : List T3} {F G : Int → Int → Option Int} (h : Ft ts n F) (e : ∀ x y, 0 ≤ x → x < n → 0 ≤ y → y < n → G x y = F x y) : Ft ts n G := fun x y d a b c d' => by rw [e x y a b c d']; exact h x y d a b c d'
noncomputable def Rows (ts : List T3) (n : Int) (M : List (List (Option Int))) : Prop := M.length = n.toNat ∧ ∀ x, 0 ≤ x → x < n → Lens ts n x (M.getD x.toNat [])
theorem way_bound {n : Int} {ts : List T3} (g : GW n ts) (x y : Int) (hx : 0 ≤ x) (hx' : x < n) (d : Int) (h : IsD ts x y d) : 0 ≤ d ∧ d ≤ 2376 := by
  have ex : ∀ (m : Nat) (kn : List (Option Int)) (wt : Int → Option Int), Dl ts n x kn wt → n.toNat - cnt kn ≤ m → (∃ L : List Int, ∀ q e, wt q = some e → q ∈ L) → ∃ kn', Lens ts n x kn' := by
    intro m
    induction m with
    | zero =>
      intro kn wt D hm _
      refine ⟨kn, D.done g fun q => ?_⟩
      cases e : wt q with
      | none => rfl
      | some d =>
        have hk := (D.dj.wk q d e).1
        obtain ⟨_, h0, h1⟩ := D.bw q d e
        have hl := D.ln
        have hlt : q.toNat < kn.length := by first | lia | omega
        have hn : kn[q.toNat]? = some none := by
          unfold fnl at hk
          rw [if_pos h0, List.getD_eq_getElem?_getD, List.getElem?_eq_getElem hlt] at hk
          rw [List.getElem?_eq_getElem hlt]
          exact congrArg some hk
        have h1 := cnt_set (d := 0) hn
        have h2 := cnt_le (kn.set q.toNat (some 0))
        rw [List.length_set] at h2
        (first | lia | omega)
    | succ m ih =>
      intro kn wt D hm hL
      by_cases hw : ∀ q, wt q = none
      · exact ⟨kn, D.done g hw⟩
      · -- pick the nearest
        obtain ⟨L, hL⟩ := hL
        have pick : ∀ L : List Int, (∃ q ∈ L, (wt q).isSome) → ∃ p d, wt p = some d ∧ ∀ q ∈ L, ∀ e, wt q = some e → d ≤ e := by
          intro L
          induction L with
          | nil => rintro ⟨q, hq, _⟩; simp at hq
          | cons z L ihL =>
            rintro ⟨q, hq, hs⟩
            by_cases hr : ∃ q ∈ L, (wt q).isSome
            · obtain ⟨p, d, hp, hmin⟩ := ihL hr
              cases ez : wt z with
              | none =>
                refine ⟨p, d, hp, fun q' hq' e he => ?_⟩
                rcases List.mem_cons.mp hq' with rfl | hq'
                · rw [ez] at he; cases he
                · exact hmin q' hq' e he
              | some dz =>
                by_cases hz : dz < d
                · refine ⟨z, dz, ez, fun q' hq' e he => ?_⟩
                  rcases List.mem_cons.mp hq' with rfl | hq'
                  · rw [ez] at he; cases he; exact Int.le_refl _
                  · have := hmin q' hq' e he; (first | lia | omega)
                · refine ⟨p, d, hp, fun q' hq' e he => ?_⟩
                  rcases List.mem_cons.mp hq' with rfl | hq'
                  · rw [ez] at he; cases he; (first | lia | omega)
                  · exact hmin q' hq' e he
            · rcases List.mem_cons.mp hq with rfl | hq
              · obtain ⟨d, hd⟩ := Option.isSome_iff_exists.mp hs
                refine ⟨q, d, hd, fun q' hq' e he => ?_⟩
                rcases List.mem_cons.mp hq' with rfl | hq'
                · rw [hd] at he; cases he; exact Int.le_refl _
                · exact absurd ⟨q', hq', by rw [he]; rfl⟩ hr
              · exact absurd ⟨q, hq, hs⟩ hr
        obtain ⟨p, d, hp, hmin⟩ := pick L (by
          apply Classical.byContradiction
          intro hno
          refine hw fun q => ?_
          cases e : wt q with
          | none => rfl
          | some d => exact absurd ⟨q, hL q d e, by rw [e]; rfl⟩ hno)
        obtain ⟨hn, h0, h1, hc, N⟩ := D.enter g hp (fun q e he => hmin q (hL q e he) e he)
        have all : ∀ (ns : List (Int × Int)) (wt' : Int → Option Int) (seen : Int → Prop), Dn ts n x p d (kn.set p.toNat (some d)) wt' seen → (∃ L : List Int, ∀ q e, wt' q = some e → q ∈ L) → (∀ r l, (r, l) ∈ ns → Adj ts p r l) →
            ∃ (wt'' : Int → Option Int) (seen' : Int → Prop), Dn ts n x p d (kn.set p.toNat (some d)) wt'' seen' ∧ (∃ L : List Int, ∀ q e, wt'' q = some e → q ∈ L) ∧ (∀ r, seen r → seen' r) ∧ ∀ r l, (r, l) ∈ ns → seen' r := by
          intro ns
          induction ns with
          | nil => intro wt' seen N hL _; exact ⟨wt', seen, N, hL, fun _ z => z, fun r l z => by simp at z⟩
          | cons t ns ih' =>
            intro wt' seen N hL' ha
            obtain ⟨r, l⟩ := t
            have har := ha r l List.mem_cons_self
            have ha' : ∀ r l, (r, l) ∈ ns → Adj ts p r l := fun r l z => ha r l (List.mem_cons_of_mem _ z)
            cases ek : fnl (kn.set p.toNat (some d)) r with
            | some f =>
              obtain ⟨w2, s2, N2, L2, m2, a2⟩ := ih' wt' _ (N.skip ek) hL' ha'
              refine ⟨w2, s2, N2, L2, fun q z => m2 q (.inl z), fun q l' z => ?_⟩
              rcases List.mem_cons.mp z with e | z
              · cases e; exact m2 _ (.inr rfl)
              · exact a2 q l' z
            | none =>
              obtain ⟨L', hL'⟩ := hL'
              obtain ⟨w2, s2, N2, L2, m2, a2⟩ := ih' _ _ (N.wait g har ek) ⟨r :: L', fun q e he => by
                by_cases e' : q = r
                · rw [e']; exact List.mem_cons_self
                · rw [if_neg e'] at he; exact List.mem_cons_of_mem _ (hL' q e he)⟩ ha'
              refine ⟨w2, s2, N2, L2, fun q z => m2 q (.inl z), fun q l' z => ?_⟩
              rcases List.mem_cons.mp z with e | z
              · cases e; exact m2 _ (.inr rfl)
              · exact a2 q l' z
        have nbr : ∃ ns : List (Int × Int), (∀ r l, (r, l) ∈ ns → Adj ts p r l) ∧ ∀ r l, Adj ts p r l → (r, l) ∈ ns := by
          refine ⟨(ts.filterMap fun t => if t.1 = p then some (t.2.1, t.2.2) else none) ++ (ts.filterMap fun t => if t.2.1 = p then some (t.1, t.2.2) else none), fun r l z => ?_, fun r l z => ?_⟩
          · rcases List.mem_append.mp z with z | z
            · obtain ⟨⟨a, b, c⟩, ht, e⟩ := List.mem_filterMap.mp z
              split at e
              · rename_i c1
                have c1' : a = p := c1
                have e' := Option.some.inj e
                simp only [Prod.mk.injEq] at e'
                obtain ⟨rfl, rfl⟩ := e'
                subst c1'
                exact .inl ht
              · cases e
            · obtain ⟨⟨a, b, c⟩, ht, e⟩ := List.mem_filterMap.mp z
              split at e
              · rename_i c1
                have c1' : b = p := c1
                have e' := Option.some.inj e
                simp only [Prod.mk.injEq] at e'
                obtain ⟨rfl, rfl⟩ := e'
                subst c1'
                exact .inr ht
              · cases e
          · rcases z with z | z
            · exact List.mem_append_left _ (List.mem_filterMap.mpr ⟨_, z, by simp⟩)
            · exact List.mem_append_right _ (List.mem_filterMap.mpr ⟨_, z, by simp⟩)
        obtain ⟨ns, hns1, hns2⟩ := nbr
        obtain ⟨w2, s2, N2, L2, _, a2⟩ := all ns _ _ N ⟨L, fun q e he => by
          by_cases e' : q = p
          · rw [if_pos e'] at he; cases he
          · rw [if_neg e'] at he; exact hL q e he⟩ hns1
        exact ih _ _ (N2.leave fun r l ha => a2 r l (hns2 r l ha)) om L2
  obtain ⟨kn, K⟩ := ex n.toNat _ _ (Dl.start g hx hx') om ⟨[x], fun q e he => by
    by_cases e' : q = x
    · simp [e']
    · rw [if_neg e'] at he; cases he⟩
  have hy : (0 ≤ y ∧ y < n) ∨ y = x := by
    have : ∀ {x y d : Int}, Way ts x y d → x = y ∨ (0 ≤ y ∧ y < n) := by
      intro x y d w
      induction w with
      | nil => exact .inl rfl
      | cons ha _ ih =>
        rcases ih with rfl | q
        · have := g.adj ha; exact .inr ⟨this.2.2.1, this.2.2.2.1⟩
        · exact .inr q
    rcases this h.1 with e | q
    · exact .inr e.symm
    · exact .inl q
  have hy' : 0 ≤ y ∧ y < n := hy.elim id fun e => by first | lia | omega
  have hl := K.len y hy'.1 hy'.2
  have hlen := K.ln
  have hlt : y.toNat < kn.length := by first | lia | omega
  have e1 : fnl kn y = kn[y.toNat] := by
    unfold fnl
    rw [if_pos hy'.1, List.getD_eq_getElem?_getD, List.getElem?_eq_getElem hlt]; rfl
  have e2 := Len.uniq hl (show Len ts x y (some d) from h)
  exact K.bd _ (List.getElem_mem hlt) d (by rw [← e1]; exact e2)
theorem rows_of {n : Int} {ts : List T3} (g : GW n ts) {M : List (List (Option Int))} (h : Sqm n M) (f : Fw ts n (mat M)) (c : Cov ts n n (mat M)) : Rows ts n M := by
  refine ⟨h.ln, fun x hx hx' => ?_⟩
  obtain ⟨r, h1, h2, h3⟩ := h.row hx hx'
  have e : ∀ y, mat M x y = fnl r y := fun y => by unfold mat; rw [if_pos hx, h2]
  rw [h2]
  refine ⟨h3, fun y hy hy' => by rw [← e]; exact f.len g c hx hx' hy hy', fun o ho d ed => ?_⟩
  obtain ⟨j, hj, ej⟩ := List.getElem_of_mem ho
  have hf : fnl r (j : Int) = some d := by
    unfold fnl
    rw [if_pos om, List.getD_eq_getElem?_getD, Int.toNat_natCast, List.getElem?_eq_getElem hj, ej, ed]; rfl
  have hl := f.len g c hx hx' (y := (j : Int)) om om
  rw [e, hf] at hl
  exact way_bound g x j hx hx' d hl
end WM
namespace WM
noncomputable def Btw (ts : List T3) (x y p : Int) : Prop := ∃ a b, IsD ts x p a ∧ IsD ts p y b ∧ IsD ts x y (a + b)
noncomputable def Nxt (ts : List T3) (x y p : Int) : Prop := ∃ l b, Adj ts x p l ∧ IsD ts p y b ∧ IsD ts x y (l + b)
theorem Btw.symm {ts : List T3} {x y p : Int} (h : Btw ts x y p) : Btw ts y x p := by
  obtain ⟨a, b, h1, h2, h3⟩ := h
  exact ⟨b, a, h2.symm, h1.symm, by rw [Int.add_comm]; exact h3.symm⟩
theorem Way.zero {n : Int} {ts : List T3} (g : GW n ts) {x y : Int} (h : Way ts x y 0) : x = y := by
  have : ∀ {x y d : Int}, Way ts x y d → d = 0 → x = y := by
    intro x y d w
    cases w with
    | nil => intro _; rfl
    | cons ha w' => intro e; have := g.adj ha; have := w'.nn g; (first | lia | omega)
  exact this h rfl
theorem Way.in_ {n : Int} {ts : List T3} (g : GW n ts) {x y d : Int} (w : Way ts x y d) (hx : 0 ≤ x) (hx' : x < n) : 0 ≤ y ∧ y < n := by
  induction w with
  | nil => exact ⟨hx, hx'⟩
  | cons ha _ ih => have := g.adj ha; exact ih this.2.2.1 this.2.2.2.1
theorem Btw.self {n : Int} {ts : List T3} (g : GW n ts) {x y d : Int} (h : IsD ts x y d) : Btw ts x y x := ⟨0, d, isD_self g x, h, by rw [Int.zero_add]; exact h⟩
theorem isD_zero {n : Int} {ts : List T3} (g : GW n ts) {x y d : Int} (h : IsD ts x y d) : d = 0 ↔ x = y := by
  constructor
  · intro e; subst e; exact h.1.zero g
  · intro e; subst e; exact IsD.uniq h (isD_self g x)
theorem Btw.trans {ts : List T3} {x y p q : Int} (h : Btw ts x y p) (h' : Btw ts x p q) : Btw ts x y q := by
  obtain ⟨a, b, h1, h2, h3⟩ := h
  obtain ⟨c, e, k1, k2, k3⟩ := h'
  have e1 : a = c + e := IsD.uniq h1 k3
  refine ⟨c, e + b, k1, ⟨k2.1.trans h2.1, fun f hf => ?_⟩, ?_⟩
  · have := h3.2 _ (k1.1.trans hf)
    (first | lia | omega)
  · rw [e1, Int.add_assoc] at h3; exact h3
theorem Way.least {n : Int} {ts : List T3} (g : GW n ts) {x y d : Int} (h : Way ts x y d) : ∃ e, IsD ts x y e := by
  have : ∀ (m : Nat) (d : Int), Way ts x y d → d.toNat ≤ m → ∃ e, IsD ts x y e := by
    intro m
    induction m with
    | zero =>
      intro d hd hm
      have := hd.nn g
      have e : d = 0 := by first | lia | omega
      subst e
      exact ⟨0, hd, fun f hf => hf.nn g⟩
    | succ m ih =>
      intro d hd hm
      by_cases hl : ∃ f, Way ts x y f ∧ f < d
      · obtain ⟨f, hf, hlt⟩ := hl
        have := hf.nn g
        exact ih f hf om
      · refine ⟨d, hd, fun f hf => ?_⟩
        apply Classical.byContradiction
        intro hn
        exact hl ⟨f, hf, om⟩
  exact this _ d h (Nat.le_refl _)
theorem Nxt.exists {n : Int} {ts : List T3} (g : GW n ts) {x y d : Int} (h : IsD ts x y d) (hne : x ≠ y) : ∃ p, Nxt ts x y p := by
  obtain ⟨hw, hmin⟩ := h
  cases hw with
  | nil => exact absurd rfl hne
  | cons ha w =>
    rename_i z l e
    obtain ⟨f, hf⟩ := w.least g
    have h1 := hf.2 _ w
    have h2 := hmin _ (.cons ha hf.1)
    have : f = e := by first | lia | omega
    subst this
    exact ⟨z, l, f, ha, hf, .cons ha hf.1, hmin⟩
theorem Nxt.ne {n : Int} {ts : List T3} (g : GW n ts) {x y p : Int} (h : Nxt ts x y p) : x ≠ y := by
  obtain ⟨l, b, ha, hb, hd⟩ := h
  intro e
  subst e
  have := IsD.uniq hd (isD_self g x)
  have := g.adj ha
  have := hb.1.nn g
  (first | lia | omega)
theorem Len.via {ts : List T3} {x y p a d : Int} {o : Option Int} (h1 : IsD ts x p a) (h2 : IsD ts x y d) (h3 : Len ts p y o) : ∃ b, o = some b ∧ d ≤ a + b := by
  cases o with
  | none => exact absurd (h1.1.symm.trans h2.1) (h3 _)
  | some b => exact ⟨b, rfl, h2.2 _ (h1.1.trans h3.1)⟩
end WM
namespace WM
end WM
namespace L2
open PySem PySem.Spec PyProof.Rows
noncomputable def intO : KeyOrd := ⟨Int, fun a b => decide (a < b), fun a => decide_eq_false om, fun a b c h1 h2 => decide_eq_true (by have := of_decide_eq_true h1; have := of_decide_eq_true h2; (first | lia | omega)),
  fun a b c h => by
    have h' : a < c := of_decide_eq_true h
    by_cases hab : a < b
    · exact .inl (decide_eq_true hab)
    · exact .inr (decide_eq_true om),
  fun a b h1 h2 => by have := of_decide_eq_false h1; have := of_decide_eq_false h2; (first | lia | omega)⟩
theorem asks_ints {prog : Program} {w : World} {A : Around} {s : Shared} {a : Addr} {vs : List Value} {ns : List Int} (hI : IntsAre vs ns) (h2 : 2 ≤ vs.length) :
    SortT.Asks prog w A s a vs (O := intO) (fun i => ns.getD i 0) oneType' := by
  have hl := hI.length
  have at_ : ∀ i, i < vs.length → ∃ t, vs.getD i Value.none = .int (ns.getD i 0) t := fun i hi => by
    obtain ⟨n, hn⟩ : ∃ n, ns[i]? = some n := ⟨_, List.getElem?_eq_getElem om⟩
    obtain ⟨t, ht⟩ := hI.get i n hn
    exact ⟨t, by rw [List.getD_eq_getElem?_getD, List.getD_eq_getElem?_getD, ht, hn]; rfl⟩
  refine ⟨fun h' Q E kh q => ?_, fun h' i j Q E kh hi hj q => ?_⟩
  · rw [ksk_kind (keys := vs.toArray) (kz := ns) (by simpa using hI) (by simpa using h2)]
    exact wpAny_pure q
  · obtain ⟨t, e1⟩ := at_ i hi
    obtain ⟨u, e2⟩ := at_ j hj
    rw [e1, e2]
    exact PySem.W.kat_lt_int q
theorem put_ints {vs : List Value} {ns : List Int} {out : List Nat} (hI : IntsAre vs ns) (p : SortT.Put (O := intO) (fun i => ns.getD i 0) vs.length out) :
    ∃ ms : List Int, ms.Perm ns ∧ ms.Pairwise (· ≤ ·) ∧ Vals (ms.map V.int) (out.map fun i => vs.getD i Value.none) ∧ ms.length = ns.length := by
  have hl := hI.length
  have hb : ∀ i ∈ out, i < vs.length := fun i hi => List.mem_range.mp (p.perm.mem_iff.mp hi)
  refine ⟨out.map fun i => ns.getD i 0, ?_, ?_, ?_, ?_⟩
  · have h1 := p.perm.map fun i => ns.getD i 0
    have h2 : (List.range vs.length).map (fun i => ns.getD i 0) = ns := by
      rw [show vs.length = ns.length by first | lia | omega]
      apply List.ext_getElem?
      intro j
      rw [List.getElem?_map]
      by_cases hj : j < ns.length
      · rw [List.getElem?_range hj, List.getElem?_eq_getElem hj]; simp [hj]
      · rw [List.getElem?_eq_none (by rw [List.length_range]; (first | lia | omega)), List.getElem?_eq_none om]; rfl
    rw [h2] at h1
    exact h1
  · refine List.pairwise_iff_getElem.mpr fun i j hi hj hij => ?_
    rw [List.length_map] at hi hj
    have := p.rise i j out[i] out[j] (Nat.le_of_lt hij) (by simp) (by simp)
    have h3 : decide (ns.getD out[j] 0 < ns.getD out[i] 0) = false := this
    have h4 := of_decide_eq_false h3
    rw [List.getElem_map, List.getElem_map]
    (first | lia | omega)
  · have : ∀ l : List Nat, (∀ i ∈ l, i < vs.length) → Vals ((l.map fun i => ns.getD i 0).map V.int) (l.map fun i => vs.getD i Value.none) := by
      intro l
      induction l with
      | nil => intro _; exact .nil
      | cons i l ih =>
        intro h
        have hi := h i List.mem_cons_self
        obtain ⟨n, hn⟩ : ∃ n, ns[i]? = some n := ⟨_, List.getElem?_eq_getElem om⟩
        obtain ⟨t, ht⟩ := hI.get i n hn
        refine .cons ?_ (ih fun j hj => h j (List.mem_cons_of_mem _ hj))
        show RelV (V.int (ns.getD i 0)) (vs.getD i Value.none)
        rw [List.getD_eq_getElem?_getD, List.getD_eq_getElem?_getD, ht, hn]
        exact ⟨t, rfl⟩
    exact this out hb
  · rw [List.length_map, p.perm.length_eq, List.length_range]; (first | lia | omega)
section
variable {X : Cx}
inductive rc_6 (xs : List V) (H : Hp) (Q : VK) : Prop
  | mk : ∀ p kvs ns, (xs = [.ref p]) → (H p = some (.dK kvs)) → (kvs.map (·.1) = ns.map Sum.inl) → (ns.length < 64) → (∀ (l : Addr) (ms : List Int), H l = none → ms.Perm ns → ms.Pairwise (· ≤ ·) → Q (.ref l) (upd H l (.lst (ms.map V.int)))) → rc_6 xs H Q
theorem call_sortedK (hc : X.calm = true) : CallR X (.builtin "sorted") rc_6 := by
  intro pins s σ H xs us Q I r h
  obtain ⟨p, kvs, ns, rfl, hd, hks, h64, q⟩ := h
  obtain ⟨u, rfl, rx⟩ := vals1 r
  cases rx
  obtain ⟨hz, lo, vs, rel, o, es, ep, ho, hx, hdat, _, hpr, hnd⟩ := dk_of I.hok hd
  have key : ∀ (es : List DictEntry) (kvs : List (Key × V)) (vs : List (Key × Value)) (ns : List Int), KV kvs vs → Pairs (mixKind X.prog X.w) es vs → kvs.map (·.1) = ns.map Sum.inl → IntsAre (es.map (·.key)) ns := by
    intro es
    induction es with
    | nil =>
      intro kvs vs ns rel pr e
      cases pr
      cases rel
      cases ns with
      | nil => exact .nil
      | cons n ns => simp at e
    | cons d es ih =>
      intro kvs vs ns rel pr e
      cases pr with
      | cons k1 k2 k3 =>
        cases rel with
        | cons hpq t =>
          cases ns with
          | nil => simp at e
          | cons n ns =>
            simp only [List.map_cons, List.cons.injEq] at e
            rw [← hpq.1, e.1] at k1
            obtain ⟨t0, e0⟩ := Value.isInt_shape (k := n) (v := d.key) k1
            rw [List.map_cons, e0]
            exact .cons n t0 (ih _ _ _ t k3 e.2)
  have hI : IntsAre (es.toList.map (·.key)) ns := key _ _ _ _ rel hpr hks
  have hl := hI.length
  refine SortT.sorted_dict (O := intO) (key := fun i => ns.getD i 0) (κ := oneType') (vs := es.toList.map (·.key)) (I.ok.hd hc) lo ⟨o, ho, hx, hdat⟩ rfl om (fun h2 s' a fa kp => asks_ints hI h2) fun h1 D h' t' out c pt k1 hD k2 ho => ?_
  obtain ⟨ms, hp, hr, rz, hlz⟩ := put_ints hI pt
  have I1 : Inv X pins σ H { s with heap := h1, toks := s.toks } := I.kept k1
  refine ⟨.ref D, _, sorted_fin (s := { s with heap := h1, toks := s.toks }) (t' := t') I1 hD k2 ho rz ?_, rfl, q D ms (I1.hok.fresh hD) hp hr⟩
  have : sizeLine = 16777216 := rfl
  rw [List.length_map]
  (first | lia | omega)
end
noncomputable def CodePhi (c : Addr) (q : Str) : Heap → Prop := fun h => ∃ o vs t, h.get? c = some o ∧ o.data = .fields vs ∧ vs[1]? = some (.str q t)
noncomputable def TabAt (H : Hp) (P : Addr) (pos : Pos) (q : Str) : Prop := ∃ ps, H P = some (.tbl ps) ∧ TriplesOk ps.toList ∧ (codeAmong pos ps.toList = none ∨ ∃ c, codeAmong pos ps.toList = some (.ref c) ∧ H c = some (.ext (CodePhi c q)))
noncomputable def SmT (H H' : Hp) : Prop := ∀ b o, H b = some o → (∃ ps, o = .tbl ps) ∨ H' b = some o
theorem SmT.refl (H : Hp) : SmT H H := fun _ _ e => .inr e
theorem SmT.of {H H' : Hp} (h : Same H H') : SmT H H' := fun b o e => .inr (h b o e)
theorem SmT.trans {H H1 H2 : Hp} (a : SmT H H1) (b : SmT H1 H2) : SmT H H2 := fun c o e => by
  rcases a c o e with z | z
  · exact .inl z
  · exact b c o z
theorem TabAt.keep {H H' : Hp} {P : Addr} {pos : Pos} {q : Str} (h : TabAt H P pos q) (k : ∀ o, H P = some o → H' P = some o) (k2 : ∀ c φ, H c = some (.ext φ) → H' c = some (.ext φ)) : TabAt H' P pos q := by
  obtain ⟨ps, a, b, c⟩ := h
  exact ⟨ps, k _ a, b, c.imp id fun ⟨c, e, f⟩ => ⟨c, e, k2 _ _ f⟩⟩
theorem TabAt.same {H H' : Hp} {P : Addr} {pos : Pos} {q : Str} (h : TabAt H P pos q) (k : Same H H') : TabAt H' P pos q := h.keep (fun _ => k _ _) fun _ _ => k _ _
noncomputable def BmAt (mg : Str → Option Value) (h : Heap) : Prop := ∃ bm ob, mg "__builtins__" = some (.ref bm) ∧ bm ≠ builtinsNs ∧ h.get? bm = some ob ∧ ob.cls = .type "module" ∧ ob.dict = some builtinsNs ∧ ob.data = .plain
theorem ns_inj {h : Heap} {a : Addr} {m m' : Str → Option Value} (x : h.Ns a m) (y : h.Ns a m') : m = m' := by
  obtain ⟨o, es, ep, e, d, _, f⟩ := x
  obtain ⟨o', es', ep', e', d', _, f'⟩ := y
  rw [e] at e'; cases e'
  rw [d] at d'; cases d'
  funext n
  rw [← f n, ← f' n]
section
variable {X : Cx} {pins : List (Addr × Obj)} {σ : St} {H : Hp} {s : Shared}
theorem Inv.growL {Pt c' : Addr} {ps more : Array Value} {o : HO} {t' : Nat} {h' : Heap} (I : Inv X pins σ H s) (hP : H Pt = some (.tbl ps)) (hp : s.heap.objs.size ≤ c') (k : ∀ b u, b ≠ Pt → s.heap.get? b = some u → h'.get? b = some u)
    (newP : h'.get? Pt = some (PySem.W.tabObj (ps ++ more))) (new : ObjOk X.prog X.w (upd (upd H Pt (.tbl (ps ++ more))) c' o) h' c' o) :
    Inv X pins σ (upd (upd H Pt (.tbl (ps ++ more))) c' o) { s with heap := h', toks := t' } := by
  have hc : H c' = none := I.hok.fresh hp
  have nP : ∀ b, H b = none → b ≠ Pt := fun b n z => by rw [z, hP] at n; cases n
  have nc : ∀ b u, s.heap.get? b = some u → b ≠ c' := fun b u e => Nat.ne_of_lt (Nat.lt_of_lt_of_le (Heap.lt_size e) hp)
  have up : ∀ b u, H b = some u → b ≠ Pt → (upd (upd H Pt (.tbl (ps ++ more))) c' o) b = some u := fun b u e hb => by rw [upd_ne (ne_of_none e hc), upd_ne hb]; exact e
  refine I.un ⟨fun b u e n _ _ => k b u (nP b n) e, fun b u e n _ _ => ⟨u.slots, k b u (nP b n) e⟩, fun b u e n _ => by rw [upd_ne (nc b u e), upd_ne (nP b n)]; exact n, fun b u e _ => ?_, fun b xs e => up b _ e (ne_of e hP (by intro z; cases z)), fun b ob u e => up b _ e (ne_of e hP (by intro z; cases z)), fun b qs e => ?_⟩ ?_
  · by_cases hb : b = Pt
    · rw [hb]; exact ⟨_, newP⟩
    · exact ⟨u, k b u hb e⟩
  · by_cases hb : b = Pt
    · subst hb
      rw [hP] at e; cases e
      exact ⟨more, by rw [upd_ne (ne_of_none hP hc), upd_same]⟩
    · exact ⟨#[], by rw [up b _ e hb]; simp⟩
  · intro b u e
    by_cases hbc : b = c'
    · subst hbc; rw [upd_same] at e; cases e; exact new
    · rw [upd_ne hbc] at e
      by_cases hb : b = Pt
      · subst hb; rw [upd_same] at e; cases e; exact newP
      · rw [upd_ne hb] at e
        refine (I.hok b u e).stay (fun d v hd q => k d v ?_ q) (fun d q => up d _ q (ne_of q hP (by intro z; cases z))) fun d xs q => up d _ q (ne_of q hP (by intro z; cases z))
        rcases hd with z | z
        · rw [z]; exact hb
        · exact ne_of z hP (by intro z'; cases z')
theorem lam_ev {P c : Addr} {params : Arguments} {body : Expr} {lscope : Scope} {lpos : Pos} {Q : Value → Shared → Prop} {E : Value → Shared → Prop} (I : Inv X pins σ H s) (T : TabAt H P lpos (X.env.qual ++ "<lambda>"))
    (hcode : X.env.code = .ref c) (C : PySem.W.CodeHd X.base c P) (hbm : BmAt X.mg X.base) (hfree : ∀ y ∈ lscope.names, y.2 = .free → X.env.kindOf y.1 = some .cell) (hdef : defaultsOf params X.env = ([], []))
    (h : ∀ (f : Addr) (pm cv ctv : Value) (s' : Shared) (H' : Hp), Inv X pins σ H' s' → SmT H H' → TabAt H' P lpos (X.env.qual ++ "<lambda>") → s.heap.objs.size ≤ f →
      s'.heap.get? f = some { cls := .type "function", data := .func (PySem.W.kla_fn "<lambda>" (X.env.qual ++ "<lambda>") params body lscope (clOf X.env.cells lscope.names []) pm cv ctv) } →
      s'.heap.CodeRec cv (X.env.qual ++ "<lambda>") → Q (.ref f) s') :
    wpAny (model X.prog X.w) X.A (eval (.Lambda params body lscope lpos) X.env) Q E s := by
  obtain ⟨ps, hP, ht, hcase⟩ := T
  have oP : s.heap.get? P = some (PySem.W.tabObj ps) := I.hok P _ hP
  have hg := I.mod.glob.keeps I.bk
  have C' : PySem.W.CodeHd s.heap c P := C.keeps I.bk
  have hcl : closureFor lscope X.env = pure (clOf X.env.cells lscope.names []) := closureFor_eq fun y hy hf => I.ok.has y.1 (.inl (hfree y hy hf))
  have nP : ∀ b o, X.base.get? b = some o → b ≠ P := fun b o e z => by
    have := (I.bs b o e).2
    rw [z, hP] at this; cases this
  have hgP : mainGlobals ≠ P := by
    obtain ⟨o, es, ep, e, -⟩ := I.mod.glob
    exact nP _ _ e
  have hb : s.heap.BuiltinsAt X.mg P := by
    obtain ⟨bm, ob, b1, b2, b3, b4, b5, b6⟩ := hbm
    refine ⟨bm, ob, b1, b2, fun z => ?_, nP _ _ b3, I.bk _ _ b3, b4, b5, b6⟩
    obtain ⟨o, es, ep, e, hd, -⟩ := I.mod.glob
    rw [z, e] at b3; cases b3; rw [hd] at b6; cases b6
  refine PySem.W.kla_eval hdef ?_
  rcases hcase with hn | ⟨c1, hc1, hH⟩
  · refine PySem.W.kla_makeFunction (mg := X.mg) hcl I.ok.glob hg hcode C' oP ht hn hgP hb fun c' ctv h' tk hx hge hlt hrec htb => ?_
    obtain ⟨c2, oc, vs, t, e2, hoc, hd, hv⟩ := id hrec
    cases e2
    have kp : ∀ b u, b ≠ P → s.heap.get? b = some u → (h'.push (PySem.W.kla_obj "<lambda>" (X.env.qual ++ "<lambda>") params body lscope (clOf X.env.cells lscope.names []) ((X.mg "__name__").getD .none) c' ctv)).get? b = some u := fun b u hb' e => Heap.get?_push_of_some _ (hx b u hb' e)
    have hcn : H c' = none := I.hok.fresh hge
    have nPc : P ≠ c' := ne_of_none hP hcn
    refine h h'.objs.size ((X.mg "__name__").getD .none) (.ref c') ctv _ _ (I.growL (c' := c') (o := .ext (CodePhi c' (X.env.qual ++ "<lambda>"))) (t' := tk) hP hge kp (Heap.get?_push_of_some _ htb) ⟨⟨oc, vs, t, Heap.get?_push_of_some _ hoc, hd, hv⟩, ⟨oc, Heap.get?_push_of_some _ hoc⟩, fun h1 h2 ⟨o1, v1, t1, a1, a2, a3⟩ k12 => ⟨o1, v1, t1, k12 _ a1, a2, a3⟩⟩) ?_ ?_ ?_ ?_ ?_
    · intro b o e
      by_cases hbP : b = P
      · left
        rw [hbP, hP] at e
        exact ⟨ps, (Option.some.inj e).symm⟩
      · right
        rw [upd_ne (ne_of_none e hcn), upd_ne hbP]; exact e
    · refine ⟨ps ++ #[rawInt lpos.line, rawInt lpos.col, .ref c'], by rw [upd_ne nPc, upd_same], ?_, .inr ⟨c', ?_, upd_same⟩⟩
      · rw [Array.toList_append]; exact TriplesOk_snoc _ _ _ _ ht
      · rw [Array.toList_append]; exact codeAmong_snoc _ ht hn
    · have := Nat.le_of_lt (Nat.lt_of_le_of_lt hge hlt)
      exact this
    · exact Heap.get?_push_size _ rfl
    · exact hrec.keeps fun b o e => Heap.get?_push_of_some _ e
  · obtain ⟨⟨oc, vs, t, hoc, hd, hv⟩, -⟩ := I.hok c1 _ hH
    refine PySem.W.kla_makeFunctionHit (mg := X.mg) hcl I.ok.glob hg hcode C' oP ht hc1 hb fun ctv h' tk hk hsz => ?_
    refine h h'.objs.size ((X.mg "__name__").getD .none) (.ref c1) ctv _ _ (I.kept (t' := tk) fun b u e => Heap.get?_push_of_some _ (hk b u e)) (SmT.refl _) ⟨ps, hP, ht, .inr ⟨c1, hc1, hH⟩⟩ hsz (Heap.get?_push_size _ rfl) ⟨c1, oc, vs, t, rfl, Heap.get?_push_of_some _ (hk _ _ hoc), hd, hv⟩
end
theorem free_of {X : Cx} {sc : Scope} (h : (sc.names.all fun y => y.2 != .free || X.env.kindOf y.1 == some .cell) = true) : ∀ y ∈ sc.names, y.2 = .free → X.env.kindOf y.1 = some .cell := fun y hy e => by
  have a := List.all_eq_true.mp h y hy
  rw [e] at a
  simpa using a
section
variable {X : Cx}
inductive tMinKey_r (j : Nat) (P : Addr) (lpos : Pos) (q : Str) (σ : St) (Q : VK) (vs : List V) (H1 : Hp) : Prop
  | mk : ∀ (l d : Addr) (ns : List Int) (kvs : List (Key × V)) (val : Int → Int), (vs = [.ref l]) → (H1 l = some (.lst (ns.map V.int))) → (ns ≠ []) → (σ[j]? = some (some (.ref d))) → (H1 d = some (.dK kvs)) → ((∀ n ∈ ns, valV kvs (Sum.inl n) = some (.int (val n)))) → (TabAt H1 P lpos q) → (∀ (M : Int) (H2 : Hp), M ∈ ns → (∀ n ∈ ns, val M ≤ val n) → SmT H1 H2 → TabAt H2 P lpos q → Q (.int M) H2) → tMinKey_r j P lpos q σ Q vs H1
noncomputable def tMinKey (j : Nat) (P : Addr) (lpos : Pos) (q : Str) (t : TA) : TE := fun σ H Q => t σ H fun vs H1 => tMinKey_r j P lpos q σ Q vs H1
theorem pe_minkey {k j : Nat} {P c : Addr} {dn pn : Str} {e : Expr} {t : TA} {params : Arguments} {lscope : Scope} {lpos pos np p1 p2 p3 kpos : Pos}
    (hc : X.calm = true) (hr : Room (k + 1) X.A) (hg : Gl X "min") (hm : X.mg "min" = none) (he : PA X [e] t) (hcode : X.env.code = .ref c) (C : PySem.W.CodeHd X.base c P) (hbm : BmAt X.mg X.base)
    (hN : X.N[j]? = some dn) (hkd : X.env.kindOf dn = some .cell) (hS : lscope.kind = .function) (hco : lscope.isCoroutine = false) (hgen : lscope.isGenerator = false) (hcell : ∀ x ∈ lscope.names, x.2 ≠ .cell)
    (hfree : ∀ y ∈ lscope.names, y.2 = .free → X.env.kindOf y.1 = some .cell) (hdn : lscope.names.lookup dn = some .free) (hpn : lscope.names.lookup pn = some .local) (hdef : defaultsOf params X.env = ([], []))
    (hbind : ∀ (q : Str) (body : Expr) (cl : List (Str × Addr)) (pm cdv ct v : Value), bindArgs (PySem.W.kla_fn "<lambda>" q params body lscope cl pm cdv ct) ⟨[v], []⟩ = pure [(pn, v)])
    (hd1 : (dn == ("__debug__" : Str)) = false := by decide) (hd2 : (dn == ("__classdict__" : Str)) = false := by decide) (hd3 : (pn == ("__debug__" : Str)) = false := by decide)
    (hs1 : backTo pos (starEach [e] X.env) = (false, eval e X.env) :: backTo pos (starEach [] X.env) := by rfl) (hs2 : (backTo pos (starEach [e] X.env)).any (·.1) = false := by rfl) :
    PE X (.Call (.Name "min" np) [e] [⟨some "key", .Lambda params (.Subscript (.Name dn p1) (.Name pn p2) p3) lscope lpos, kpos⟩] pos) (tMinKey j P lpos (X.env.qual ++ "<lambda>") t) := by
  intro pins s σ H Q I h
  refine wpAny_Call_Name_kw (ld_blt I hg hm (by decide +kernel : bootBuiltins "min" = some (.builtin "min")) ?_)
  refine PyProof.Rows.callWith_kw (thnA (he pos pins s σ H _ I h) fun us s1 vs H1 I1 r q1 => ?_) hs1 hs2
  obtain ⟨l, d, ns, kvs, val, rfl, hl, hne, hσ, hdd, hval, T, q⟩ := q1
  obtain ⟨u, rfl, rx⟩ := vals1 r
  cases rx
  show wpAny _ _ (evalAll ((do let v ← eval (.Lambda params (.Subscript (.Name dn p1) (.Name pn p2) p3) lscope lpos) X.env; standAt pos; pure v) :: [])) _ _ s1
  refine wpAny_evalAll_cons (wpAny_bind (lam_ev I1 T hcode C hbm hfree hdef fun f pm cv ctv s2 H2 I2 sm T2 hfge hf hrec => wpAny_bind (wpAny_standAt (wpAny_pure (wpAny_evalAll_nil ?_)))))
  show wpAny _ _ (call (.builtin "min") [.ref l] [(Str.ofString "key", .ref f)]) _ _ s2
  have keep2 : ∀ b o, H1 b = some o → (∀ ps, o ≠ .tbl ps) → H2 b = some o := fun b o e ho => by
    rcases sm b o e with ⟨ps, z⟩ | z
    · exact absurd z (ho ps)
    · exact z
  have hl2 : H2 l = some (.lst (ns.map V.int)) := keep2 _ _ hl (by intro ps z; cases z)
  have hd2' : H2 d = some (.dK kvs) := keep2 _ _ hdd (by intro ps z; cases z)
  obtain ⟨_, its, nn, rv, ho⟩ := I2.hok l _ hl2
  obtain ⟨hz, lo, vs, rel, od, es, ep, hod, hdr⟩ := dk_of I2.hok hd2'
  have hI : IntsAre its ns := intsAre_of rv
  obtain ⟨m, F0⟩ := I2.fr
  have notL : ∀ b o, H2 b = some o → b ≠ X.env.locals := fun b o e z => by rw [z, I2.free] at e; cases e
  have kp : ∀ (h' : Heap) (own : List (Addr × Obj)), Fr X.base X.env.locals h' m → News X.base X.env.locals h' (allNews X.base s2.heap X.env.locals ++ own) → ∀ b o, b ≠ X.env.locals → s2.heap.get? b = some o → h'.get? b = some o := fun h' own F' N' b o hb e' => by
    cases qb : X.base.get? b with
    | some u =>
      have z := I2.bk b u qb
      rw [e'] at z; cases z
      exact F'.keep b _ qb
    | none => exact (N' (b, o) (List.mem_append_left _ (mem_allNews hb qb e'))).1
  obtain ⟨m', hn', hloc⟩ := I2.loc
  have em : m' = m := ns_inj hn' F0.ns
  subst em
  obtain ⟨ud, rd, lk⟩ := hloc j dn (.ref d) hN hσ (.inr (.inl hkd))
  cases (show ud = Value.ref d from rd)
  obtain ⟨cc, hcc, oc, hoc, hdc⟩ : ∃ cc, X.env.cells.lookup dn = some cc ∧ s2.heap.IsCell cc (some (.ref d)) := by
    rcases lk with ⟨z, _⟩ | ⟨_, cc, a, b⟩
    · rw [hkd] at z; cases z
    · exact ⟨cc, a, b⟩
  have hcl : (clOf X.env.cells lscope.names []).lookup dn = some cc := by
    obtain ⟨c', hc'⟩ := clOf_has ⟨cc, hcc⟩ lscope.names [] (PySem.mem_of_lookup hdn)
    rcases clOf_sub _ _ hc' with z | z
    · simp at z
    · rw [hcc] at z; cases z; exact hc'
  have hsz0 : X.env.locals < s1.heap.objs.size := I1.lt
  have hfL : f ≠ X.env.locals := Nat.ne_of_gt (Nat.lt_of_lt_of_le hsz0 hfge)
  refine PyProof.Rows.kmk_min_letter (h₀ := X.base) (L := X.env.locals) (m := m') (news := allNews X.base s2.heap X.env.locals) (ns := ns) val (I2.ok.hd hc) F0 news_all (fun h' F' N' => ?_) hI (List.length_pos_iff.mpr hne) (fun n tn h' tk own hn F' N' => ?_) (fun M tM h' tk F' N' hM hbest => ?_)
  · exact ⟨_, kp h' [] F' (by rw [List.append_nil]; exact N') l _ (notL _ _ hl2) ho, rfl, nn, rfl⟩
  · have kk := kp h' own F' N'
    obtain ⟨c1, o1, v1, t1, e1, ho1, hd1', hv1⟩ := id hrec
    subst e1
    have hc1L : c1 ≠ X.env.locals ∨ True := .inr trivial
    have rec' : h'.CodeRec (.ref c1) (X.env.qual ++ "<lambda>") := by
      refine ⟨c1, o1, v1, t1, rfl, kk c1 o1 (fun z => ?_) ho1, hd1', hv1⟩
      obtain ⟨oL, esL, epL, hoL, hdL, -⟩ := F0.ns
      rw [z, hoL] at ho1; cases ho1; rw [hdL] at hd1'; cases hd1'
    refine wpAny_call (PySem.W.kla_callFunE hr.in1.depth (kk f _ hfL hf) rfl hco hgen rfl rec' ?_)
    rw [hbind]
    refine wpAny_pure (wpAny_newFunctionEnv hcell (fun y hy => ?_) (fun h₁ hns hsb => ?_) hS)
    · obtain rfl : y = (pn, Value.int n tn) := List.mem_singleton.mp hy
      exact hpn
    · have hk₁ : ∀ b o, h'.get? b = some o → h₁.get? b = some o := fun b o e' => hsb.extBut b o (Nat.ne_of_lt (Heap.lt_size e')) (Heap.get?_push_of_some _ e')
      refine ⟨I2.mod.nolimit.keeps fun b o e' => hk₁ b o (F'.keep b o e'), ?_⟩
      show codeAny _ _ (.expr (.Subscript (.Name dn p1) (.Name pn p2) p3) (PySem.W.envX (X.env.qual ++ "<lambda>") lscope h'.objs.size f (.ref c1) (clOf X.env.cells lscope.names []))) _ _
      refine PySem.W.kla_codeExpr (subD_of PySem.F.slot_dict_getitem.lookup (fun _ _ => rfl) ?_)
      refine wpAny_Name (wpAny_loadName_free hS (show (PySem.W.envX (X.env.qual ++ "<lambda>") lscope h'.objs.size f (.ref c1) (clOf X.env.cells lscope.names [])).kindOf dn = some .free from hdn) hcl ⟨oc, hk₁ _ _ (kk cc oc (I2.cne dn cc hcc) hoc), hdc⟩ ?_ hd2) hd1
      refine wpAny_Name (wpAny_loadName_local hS (show (PySem.W.envX (X.env.qual ++ "<lambda>") lscope h'.objs.size f (.ref c1) (clOf X.env.cells lscope.names [])).kindOf pn = some .local from hpn) hns (v := .int n tn) (by simp) ?_) hd3
      have dd : h₁.DictOf (mixKind X.prog X.w) d vs := ⟨od, es, ep, hk₁ _ _ (kk d od (notL _ _ hd2') hod), hdr⟩
      refine ⟨dd.typeIs, ?_⟩
      obtain ⟨w', hw, rw'⟩ := RelO.some_of (v := .int (val n)) (o := valueAt vs (Sum.inl n)) (by rw [← hval n hn]; exact rel.val (Sum.inl n))
      obtain ⟨t', rfl⟩ := rw'
      refine wpAny_getItem_of (kV_is (k := Sum.inl n) ⟨tn, rfl⟩) dd.mapOf hw ?_
      exact ⟨h₁, _, t', rfl, rfl, ⟨F'.ns.keeps hk₁, fun b o e' => hk₁ b o (F'.keep b o e'), F'.above⟩, fun p hp => ⟨hk₁ _ _ (N' p hp).1, (N' p hp).2⟩⟩
  · have kk := kp h' [] F' (by rw [List.append_nil]; exact N')
    have I3 : Inv X pins σ H2 { s2 with heap := h', toks := tk } := by
      refine I2.step (g' := s2.gens) (d' := s2.drawn) (ch := []) (fun _ z => nomatch z) (fun b o hb _ _ e' _ => kk b o hb e') (fun b o hb _ _ e' _ => ⟨o.slots, kk b o hb e'⟩) (fun _ _ _ _ n => n) (fun b o _ e' => ?_) (fun _ _ e' => e') (fun _ _ _ e' => e') (fun b ps e' => ⟨#[], by rw [e']; simp⟩) (fun mm hmm => ?_) ?_ I2.bare
      · by_cases hb : b = X.env.locals
        · obtain ⟨oL, esL, epL, hoL, -⟩ := F'.ns
          exact ⟨oL, by rw [hb]; exact hoL⟩
        · exact ⟨o, kk b o hb e'⟩
      · have := ns_inj hmm F0.ns
        subst this
        exact F'.ns
      · intro b u e'
        refine (I2.hok b u e').stay (fun x v hx z => kk x v ?_ z) (fun _ z => z) fun _ _ z => z
        rcases hx with z1 | z1
        · rw [z1]; exact notL _ _ e'
        · exact notL _ _ z1
    exact ⟨.int M, H2, I3, ⟨tM, rfl⟩, q M H2 hM hbest sm T2⟩
end
theorem law_callT {P : Program} {w : World} {K : PySem.W.Frag} {mg mb : Str → Option Value} {CX : CXT} {k : Nat} {fa a PT : Addr} {fd : FuncData} {x : Str} {sp : Sp} {s₁ : Shared} {vs : List Value} {ns : List Int}
    (KX : K.In s₁.heap) (hns : s₁.heap.Ns mainGlobals mg) (hb : s₁.heap.Ns builtinsNs mb) (hbb : ∀ x : Str, x ≠ "__name__" → mb x = bootBuiltins x) (hlim : s₁.heap.NoLimit) (hg : s₁.gens = #[])
    (ha : s₁.heap.get? a = some { cls := .type "list", data := .seq vs.toArray }) (hi : IntsAre vs ns) (hl : ns.length ≤ sizeLine) (hr : Room k callerA)
    (hT : s₁.heap.get? PT = some (PySem.W.tabObj #[])) (hC : isCodeTable s₁.heap PT) (hK : PySem.W.noTabs K = true) (hbm : BmAt mg s₁.heap)
    (F : ∀ base : Heap, K.In base → base.Ns mainGlobals mg → BmAt mg base → FnOk P w K mg base CX k fa fd [x] sp) (hbind : ∀ (s : Shared) (u : Value), BindsTo s fd ⟨[u], []⟩ [(x, u)])
    (hsp : ∀ H : Hp, H PT = some (.tbl #[]) → SqL K H a (ns.map V.int) → sp [.ref a] H (fun v _ => v = .bl true) fun _ _ _ => False)
    (hCX : ∀ H e s', CX [] H s₁ (fun _ _ _ => False) e s' → False) :
    codeAny (model P w) callerA (.call (.ref fa) ⟨[.ref a], []⟩) (fun r s' => r = .ok (.ret (.bool true)) ∧ OldK s₁.heap s'.heap ∧ s'.os = s₁.os ∧ AllBare s'.gens) s₁ := by
  have rv := vals_ints hi
  have lenV := hi.length
  have npa : PT ≠ a := fun e => by rw [e, ha] at hT; cases hT
  have kPT : K.lookup PT = none := by
    cases q : K.lookup PT with
    | none => rfl
    | some o =>
      have e := KX PT o q
      rw [hT] at e
      cases e
      have h2 := List.all_eq_true.mp hK (PT, _) (PySem.W.mem_of_lookupK q)
      exact absurd (show false = true from h2) Bool.false_ne_true
  have core : ∀ H : Hp, (∀ b u, H b = some u → (b = PT ∧ u = .tbl #[]) ∨ (b = a ∧ K.lookup a = none ∧ ∃ o xs, u = .frz o (.lst xs))) → H PT = some (.tbl #[]) → SqL K H a (ns.map V.int) → HOk P w H s₁.heap →
      codeAny (model P w) callerA (.call (.ref fa) ⟨[.ref a], []⟩) (fun r s' => r = .ok (.ret (.bool true)) ∧ OldK s₁.heap s'.heap ∧ s'.os = s₁.os ∧ AllBare s'.gens) s₁ := by
    intro H hA hP hS hok
    have base_of : ∀ {b : Addr} {o : Obj}, s₁.heap.get? b = some o → H b = none → (hidT s₁.heap H).get? b = some o := fun e n => hidT_get e n
    have noA : ∀ {b : Addr} {o : Obj}, s₁.heap.get? b = some o → (∀ ps, o.data ≠ .fields ps) → (∀ ps n, o.data ≠ .seq ps n) → H b = none := fun {b o} e d1 d2 => by
      cases q : H b with
      | none => rfl
      | some u =>
        rcases hA b u q with ⟨rfl, _⟩ | ⟨rfl, _⟩
        · rw [hT] at e; cases e; exact absurd rfl (d1 #[])
        · rw [ha] at e; cases e; exact absurd rfl (d2 _ _)
    have nsK : ∀ {b : Addr} {m : Str → Option Value}, s₁.heap.Ns b m → (hidT s₁.heap H).Ns b m := fun {b m} ⟨o, es, ep, e, d, r⟩ => ⟨o, es, ep, base_of e (noA e (fun ps z => by rw [d] at z; cases z) (fun ps n z => by rw [d] at z; cases z)), d, r⟩
    have hKb : K.In (hidT s₁.heap H) := fun b o e => base_of (KX b o e) (by
      cases q : H b with
      | none => rfl
      | some u =>
        rcases hA b u q with ⟨rfl, _⟩ | ⟨rfl, z, _⟩
        · rw [kPT] at e; cases e
        · rw [z] at e; cases e)
    have hBm : BmAt mg (hidT s₁.heap H) := by
      obtain ⟨bm, ob, b1, b2, b3, b4, b5, b6⟩ := hbm
      exact ⟨bm, ob, b1, b2, base_of b3 (noA b3 (fun ps z => by rw [b6] at z; cases z) (fun ps n z => by rw [b6] at z; cases z)), b4, b5, b6⟩
    have hM : Mod K mg (hidT s₁.heap H) := ⟨hKb, nsK hns, ⟨mb, nsK hb, hbb⟩, let ⟨mc, h1, h2⟩ := hlim; ⟨mc, nsK h1, h2⟩⟩
    have e0 : Env0 P w K mg (hidT s₁.heap H) callerA [] s₁ H := ⟨rfl, hM, fun b o e => of_hidT e, Nat.le_of_eq (hidT_size _ _), trivial, fun b hb => absurd (show b ∈ ([] : List Addr) from hb) (by simp), hok, .of_eq hg⟩
    refine codeAny_mono ((F _ hKb (nsK hns) hBm).run callerA [] s₁ H ⟨[.ref a], []⟩ [.ref a] [.ref a] _ _ hr e0 (hbind s₁ (.ref a)) (.cons rfl .nil) (hsp H hP hS)) fun r s' h => ?_
    cases r with
    | error e => exact (hCX H e s' h).elim
    | ok fl =>
      cases fl with
      | next => exact False.elim h
      | brk => exact False.elim h
      | cont => exact False.elim h
      | ret u =>
        obtain ⟨v, H', os, bare, un, hok', r', q⟩ := h
        have q' : v = .bl true := q
        subst q'
        obtain rfl : u = Value.bool true := r'
        obtain ⟨more, hPn⟩ := un.tbls PT _ hP
        have objP : s'.heap.get? PT = some { cls := .none, data := .fields (#[] ++ more) } := hok' PT _ hPn
        have keep : ∀ b o, b ≠ PT → s₁.heap.get? b = some o → s'.heap.get? b = some o := fun b o hb e => by
          cases q : H b with
          | none => exact un.keep b o e q (by intro z; exact absurd (show b ∈ ([] : List Addr) from z) (by simp)) (by simp)
          | some u =>
            rcases hA b u q with ⟨z, _⟩ | ⟨_, _, ob, xs, z⟩
            · exact absurd z hb
            · subst z
              have z2 := un.frzs b ob _ q
              obtain ⟨e1, -⟩ := hok b _ q
              obtain ⟨e2, -⟩ := hok' b _ z2
              rw [e] at e1; cases e1
              exact e2
        refine ⟨rfl, ⟨fun b o e => ?_, fun b o e => ?_⟩, os, bare⟩
        · by_cases hb : b = PT
          · subst hb
            rw [hT] at e; cases e
            exact .inr (.inl ⟨hC, rfl, #[], more, rfl, objP⟩)
          · exact .inl (keep b o hb e)
        · by_cases hb : b = PT
          · rw [hb]; exact ⟨_, objP⟩
          · exact ⟨o, keep b o hb e⟩
  have okP : ∀ H : Hp, ObjOk P w H s₁.heap PT (.tbl #[]) := fun H => hT
  cases hk : K.lookup a with
  | some o =>
    have e := KX a o hk
    rw [ha] at e
    cases e
    refine core (fun b => if b = PT then some (.tbl #[]) else none) (fun b u z => ?_) (if_pos rfl) (.inr ⟨_, vs.toArray, _, hk, rfl, rfl, rfl, by rw [List.size_toArray, lenV]; exact hl, by simpa using rv⟩) (fun b u z => ?_)
    all_goals
      have z' : (if b = PT then some (HO.tbl #[]) else none) = some u := z
      by_cases hb : b = PT
      · rw [if_pos hb] at z'; cases z'
        first
          | exact .inl ⟨hb, rfl⟩
          | (subst hb; exact okP _)
      · rw [if_neg hb] at z'; cases z'
  | none =>
    refine core (fun b => if b = PT then some (.tbl #[]) else if b = a then some (.frz { cls := .type "list", data := .seq vs.toArray } (.lst (ns.map V.int))) else none) (fun b u z => ?_) (if_pos rfl)
      (.inl (.inr ⟨{ cls := .type "list", data := .seq vs.toArray }, by show (if a = PT then _ else if a = a then _ else _) = _; rw [if_neg npa.symm, if_pos rfl]⟩)) (fun b u z => ?_)
    all_goals
      have z' : (if b = PT then some (HO.tbl #[]) else if b = a then some (.frz { cls := .type "list", data := .seq vs.toArray } (.lst (ns.map V.int))) else none) = some u := z
      by_cases hb : b = PT
      · rw [if_pos hb] at z'; cases z'
        first
          | exact .inl ⟨hb, rfl⟩
          | (subst hb; exact okP _)
      · rw [if_neg hb] at z'
        by_cases hba : b = a
        · rw [if_pos hba] at z'; cases z'
          first
            | exact .inr ⟨hba, hk, _, _, rfl⟩
            | (subst hba; exact ⟨ha, by rw [List.length_map]; exact hl, vs, _, rv, ha⟩)
        · rw [if_neg hba] at z'; cases z'
theorem walk_T {l : PySem.W.OpenLaw} {n k : Nat} {q : Program} {loose : List Str} {XP : (Str → Option Value) → Heap → Prop} {YP : World → Heap → Prop} {d : DefRec} {K : Params → PySem.W.Frag} {CX : CXT} {sp : PySem.W.Frag → Addr → Sp} {x tn : Str}
    (hn : l.most = some n) (hn2 : n ≤ sizeLine) (hdf : d.params.defaults = []) (hr : Room k callerA) (hrec : ∃ dn, (recsOf q).find? (fun e => e.name == tn) = some dn)
    (hY : ∀ (w : World) (h : Heap), YP w h → (K w.params).In h)
    (F : ∀ (w : World) (mg : Str → Option Value) (fa : Addr) (h : Heap), (K w.params).In h → h.Ns mainGlobals mg → mg d.name = some (.ref fa) →
      ∃ (fd : FuncData) (c PT : Addr), PySem.W.tabIn (K w.params) tn = some (c, PT) ∧ PySem.W.noTabs (K w.params) = true ∧ (∀ (s : Shared) (u : Value), BindsTo s fd ⟨[u], []⟩ [(x, u)]) ∧
        ∀ base : Heap, (K w.params).In base → base.Ns mainGlobals mg → BmAt mg base → FnOk l.prog w (K w.params) mg base CX k fa fd [x] (sp (K w.params) PT))
    (hsp : ∀ (K : PySem.W.Frag) (PT : Addr) (H : Hp) (a : Addr) (ns : List Int), ns.length ≤ n → H PT = some (.tbl #[]) → SqL K H a (ns.map V.int) → sp K PT [.ref a] H (fun v _ => v = .bl true) fun _ _ _ => False)
    (hCX : ∀ (H : Hp) (s : Shared) (e : Value) (s' : Shared), CX [] H s (fun _ _ _ => False) e s' → False) :
    PySem.W.WalkO q loose XP YP l.row.toRowW d [] (fun f vs => PySem.call f vs) := by
  refine Att.attach_call hn hdf fun w s₀ s₁ mg mb fa o pm cd doc a vs ns G Y ho hd hcd hmg hobj hints hlen hg => ?_
  have KX := hY w _ Y
  obtain ⟨fd, c, PT, htab, hnt, hb, hF⟩ := F w mg fa _ KX G.T.g hmg
  obtain ⟨dn, hdn⟩ := hrec
  obtain ⟨C, hPT⟩ := PySem.W.tab_of G.T KX hdn htab
  exact law_callT KX G.T.g G.T.b G.T.builtins G.T.nolimit hg hobj hints (Nat.le_trans hlen hn2) hr hPT (C.tab hPT).isCodeTable hnt G.T.bmain hF hb (fun H hP hS => hsp _ PT H a ns hlen hP hS) fun H e s' => hCX H s₁ e s'
end L2
namespace L2
open PySem PySem.Spec PyProof.Rows
structure FunC (K : PySem.W.Frag) (x qual : Str) (st : Stmt) (f : Addr) (fd : FuncData) (c : Addr) : Prop where
  ex : ∃ (oc : Value) (od : Option Addr) (kV doc pm : Value) (an : Option Addr) (ct : Value) (osl : Array (Option Value)),
    fd = PySem.W.fnOf x qual (defArgs st) (defBody st) (defScope st) .none kV doc pm an (.ref c) ct ∧ K.lookup f = some ⟨oc, od, .func fd, osl⟩ ∧ PySem.W.codeIn K (.ref c) qual = true
  kp : PySem.W.keepIn K (.ref f) = true
theorem FunC.fn {K : PySem.W.Frag} {x qual : Str} {st : Stmt} {f c : Addr} {fd : FuncData} (F : FunC K x qual st f fd c) : Fun K x qual st f fd := by
  obtain ⟨oc, od, kV, doc, pm, an, ct, osl, h⟩ := F.ex
  exact ⟨⟨oc, od, kV, doc, pm, an, .ref c, ct, osl, h⟩, F.kp⟩
theorem FunC.ok {P : Program} {w : World} {K : PySem.W.Frag} {mg : Str → Option Value} {base : Heap} {x qual : Str} {st : Stmt} {f c : Addr} {fd : FuncData} {N ps : List Str} {k : Nat} {sp : Sp} (F : FunC K x qual st f fd c) (S : FnScope N ps (defScope st)) (len : ∀ vs H Q E, sp vs H Q E → vs.length = ps.length)
    (hbody : ∀ (A : Around) (outer : List Env) (s : Shared) (H : Hp) (vs : List V) (Q : VK) (E : XK), Room k (A.deeper (envOfC qual (defScope st) s.heap.objs.size f (.ref c))) → sp vs H Q E →
      ∃ t, PSs (cxOf CX0 P w K mg base N qual (defScope st) f (.ref c) A outer s H E).nox (defBody st) t ∧ t { nx := fun _ H' => Q .non H', rt := Q } (start N vs) H) : FnOk P w K mg base CX0 (k + 1) f fd ps sp := by
  obtain ⟨oc, od, kV, doc, pm, an, ct, osl, rfl, lk, hcd⟩ := F.ex
  refine fn_of lk hcd S len fun A outer s H vs Q E hr hsp => ?_
  obtain ⟨t, h, q⟩ := hbody A outer s H vs Q E hr hsp
  exact ⟨t, h.nox, q⟩
theorem funC_mk {K : PySem.W.Frag} {x qual : Str} {st : Stmt} {f c : Addr} {oc : Value} {od an : Option Addr} {osl : Array (Option Value)} {kV doc pm ct : Value} (l : K.lookup f = some ⟨oc, od, .func (PySem.W.fnOf x qual (defArgs st) (defBody st) (defScope st) .none kV doc pm an (.ref c) ct), osl⟩)
    (hc : PySem.W.codeIn K (.ref c) qual = true) (k : PySem.W.keepIn K (.ref f) = true) : FunC K x qual st f (PySem.W.fnOf x qual (defArgs st) (defBody st) (defScope st) .none kV doc pm an (.ref c) ct) c := ⟨⟨oc, od, kV, doc, pm, an, ct, osl, rfl, l, hc⟩, k⟩
section
variable {κ : Type} [DecidableEq κ]
theorem mem_putK {kvs : List (κ × V)} {k : κ} {v : V} {kv : κ × V} (h : kv ∈ putK kvs k v) : kv ∈ kvs ∨ kv = (k, v) := by
  unfold putK at h
  split at h
  · obtain ⟨q, hq, e⟩ := List.mem_map.mp h
    by_cases hk : q.1 = k
    · rw [if_pos hk] at e; rw [← e, hk]; exact .inr rfl
    · rw [if_neg hk] at e; rw [← e]; exact .inl hq
  · rcases List.mem_append.mp h with q | q
    · exact .inl q
    · exact .inr (List.mem_singleton.mp q)
theorem nd_put {kvs : List (κ × V)} {k : κ} {v : V} (h : (kvs.map (·.1)).Nodup) : ((putK kvs k v).map (·.1)).Nodup := by
  cases e : valV kvs k with
  | none => exact nd_putK v h e
  | some x =>
    have ha : (kvs.any fun kv => decide (kv.1 = k)) = true := by rw [valV_any, e]; rfl
    unfold putK
    rw [if_pos ha]
    have e3 : (kvs.map fun kv => if kv.1 = k then (kv.1, v) else kv).map (·.1) = kvs.map (·.1) := by
      rw [List.map_map]
      refine List.map_congr_left fun kv _ => ?_
      show (if kv.1 = k then (kv.1, v) else kv).1 = kv.1
      split <;> rfl
    rw [e3]; exact h
theorem valV_drop (k j : κ) : ∀ kvs : List (κ × V), valV (dropK kvs k) j = if j = k then none else valV kvs j
  | [] => by show (none : Option V) = _; split <;> rfl
  | p :: r => by
    have ih := valV_drop k j r
    by_cases e : p.1 = k
    · rw [dropK_pos e, ih]
      by_cases hj : j = k
      · rw [if_pos hj, if_pos hj]
      · rw [if_neg hj, if_neg hj, valV_neg fun z => hj (z.symm.trans e)]
    · rw [dropK_neg e]
      by_cases hj : p.1 = j
      · rw [valV_pos hj, valV_pos hj, if_neg fun z => e (hj.trans z)]
      · rw [valV_neg hj, valV_neg hj, ih]
end
noncomputable def unkW : Key → Int
  | .inl i => i
  | .inr _ => 0
structure WD (n : Int) (kvs : List (Key × V)) (wt : Int → Option Int) : Prop where
  sh : ∀ kv ∈ kvs, ∃ p d, kv = (Sum.inl p, V.int d) ∧ 0 ≤ p ∧ p < n
  nd : (kvs.map (·.1)).Nodup
  at_ : ∀ p : Int, valV kvs (Sum.inl p) = (wt p).map V.int
noncomputable def keysW (kvs : List (Key × V)) : List Int := kvs.map fun kv => unkW kv.1
theorem WD.keys {n : Int} {kvs : List (Key × V)} {wt : Int → Option Int} (h : WD n kvs wt) : kvs.map (·.1) = (keysW kvs).map Sum.inl := by
  unfold keysW
  rw [List.map_map]
  refine List.map_congr_left fun kv hkv => ?_
  obtain ⟨p, d, e, -⟩ := h.sh kv hkv
  rw [e]; rfl
theorem WD.nds {n : Int} {kvs : List (Key × V)} {wt : Int → Option Int} (h : WD n kvs wt) : (keysW kvs).Nodup := by
  have e := h.nd
  rw [h.keys, List.Nodup, List.pairwise_map] at e
  exact e.imp fun h e' => h (by rw [e'])
theorem WD.len {n : Int} {kvs : List (Key × V)} {wt : Int → Option Int} (h : WD n kvs wt) (h0 : 0 ≤ n) : (kvs.length : Int) ≤ n := by
  have := WM.nd_len (n := n.toNat) h.nds fun x hx => by
    obtain ⟨kv, hkv, e⟩ := List.mem_map.mp hx
    obtain ⟨p, d, e2, h1, h2⟩ := h.sh kv hkv
    have : x = p := by rw [← e, e2]; rfl
    (first | lia | omega)
  unfold keysW at this
  rw [List.length_map] at this
  (first | lia | omega)
theorem WD.mem {n : Int} {kvs : List (Key × V)} {wt : Int → Option Int} (h : WD n kvs wt) {p : Int} : p ∈ keysW kvs ↔ ∃ e, wt p = some e := by
  have e : p ∈ keysW kvs ↔ (Sum.inl p : Key) ∈ kvs.map (·.1) := by
    rw [h.keys]
    constructor
    · intro m; exact List.mem_map.mpr ⟨p, m, rfl⟩
    · intro m
      obtain ⟨q, hq, e⟩ := List.mem_map.mp m
      cases e; exact hq
  rw [e]
  have ha := h.at_ p
  constructor
  · intro m
    cases hw : wt p with
    | some d => exact ⟨d, rfl⟩
    | none => rw [hw] at ha; exact absurd m (valV_not ha)
  · rintro ⟨d, hw⟩
    rw [hw] at ha
    exact valV_in ha
theorem WD.one {n s : Int} (h0 : 0 ≤ s) (h1 : s < n) : WD n [(Sum.inl s, V.int 0)] (fun q => if q = s then some 0 else none) := by
  refine ⟨fun kv hkv => ?_, by simp, fun p => ?_⟩
  · rw [List.mem_singleton.mp hkv]; exact ⟨s, 0, rfl, h0, h1⟩
  · by_cases e : p = s
    · rw [if_pos e, e]; exact valV_pos rfl
    · rw [if_neg e]; exact (valV_neg fun z => e (Sum.inl.inj z).symm).trans valV_nil
theorem WD.put {n : Int} {kvs : List (Key × V)} {wt : Int → Option Int} (h : WD n kvs wt) {p d : Int} (h0 : 0 ≤ p) (h1 : p < n) : WD n (putK kvs (Sum.inl p) (.int d)) (fun q => if q = p then some d else wt q) := by
  refine ⟨fun kv hkv => ?_, nd_put h.nd, fun q => ?_⟩
  · rcases mem_putK hkv with z | z
    · exact h.sh kv z
    · exact ⟨p, d, z, h0, h1⟩
  · rw [valV_put]
    by_cases e : q = p
    · rw [if_pos e, if_pos (by rw [e])]; rfl
    · rw [if_neg e, if_neg fun z => e (Sum.inl.inj z)]; exact h.at_ q
theorem WD.drop {n : Int} {kvs : List (Key × V)} {wt : Int → Option Int} (h : WD n kvs wt) {p : Int} : WD n (dropK kvs (Sum.inl p)) (fun q => if q = p then none else wt q) := by
  refine ⟨fun kv hkv => h.sh kv (dropK_mem hkv), nd_dropK h.nd, fun q => ?_⟩
  rw [valV_drop]
  by_cases e : q = p
  · rw [if_pos e, if_pos (by rw [e])]; rfl
  · rw [if_neg e, if_neg fun z => e (Sum.inl.inj z)]; exact h.at_ q
noncomputable def oV : Option Int → V
  | none => .non
  | some d => .int d
theorem ixN_in {n : Nat} {i : Int} (h0 : 0 ≤ i) (h1 : i < n) : ixN n i = some i.toNat := by
  unfold ixN
  rw [if_pos h0, if_pos h1]
theorem atI_in {α : Type} {xs : List α} {i : Int} {v : α} (h0 : 0 ≤ i) (h : xs[i.toNat]? = some v) : atI xs i = some v := by
  have := atI_nat h
  rwa [Int.toNat_of_nonneg h0] at this
theorem SmT.get {H H' : Hp} (k : SmT H H') {b : Addr} {o : HO} (e : H b = some o) (h : ∀ ps, o ≠ .tbl ps) : H' b = some o := by
  rcases k b o e with ⟨ps, z⟩ | z
  · exact absurd z (h ps)
  · exact z
theorem SmT.chg {H H' : Hp} {l : Addr} {o : HO} (k : SmT H H') (h : H l = none) : SmT H (upd H' l o) := fun b u e => by
  rcases k b u e with z | z
  · exact .inl z
  · right
    rw [upd_ne (ne_of_none e h)]; exact z
theorem TabAt.chg {H : Hp} {P l : Addr} {pos : Pos} {q : Str} {o : HO} {xs : List V} (T : TabAt H P pos q) (h : H l = some (.lst xs)) : TabAt (upd H l o) P pos q := by
  obtain ⟨ps, hps, -⟩ := id T
  refine T.keep (fun u hu => ?_) fun c φ hc => ?_
  · rw [upd_ne (ne_of hps h (by intro z; cases z))]; exact hu
  · rw [upd_ne (ne_of hc h (by intro z; cases z))]; exact hc
end L2
namespace L2
open PySem PySem.Spec PyProof.Rows
section
variable {X : Cx}
end
end L2
namespace L2
open PySem PySem.Spec PyProof.Rows
section
variable {X : Cx}
end
end L2
namespace L2
open PySem PySem.Spec PyProof.Rows
noncomputable def compEnv1 (scope : Scope) (yc : Str) (cl : List (Str × Addr)) (C : Addr) (env : Env) : Env :=
  { scope := relabel scope env, locals := C, globals := env.globals, cells := (yc, C + 1) :: cl, qual := env.qual, func := none, code := env.code, frame := env.frame, builtins := env.builtins }
theorem nfe_cell {M : Model} {A : Around} {E : Value → Shared → Prop} {s : Shared} {scope : Scope} {globals : Addr} {cl : List (Str × Addr)} {qual yc : Str} {env : Env} {Q : Env → Shared → Prop} (hcf : ∀ n acc, cellsFrom n scope.names acc = (yc, n) :: acc)
    (hQ : ∀ h' : Heap, h'.Ns s.heap.objs.size (fun _ => none) → (∀ b o, s.heap.get? b = some o → h'.get? b = some o) → h'.IsCell (s.heap.objs.size + 1) none →
      Q (newEnv scope s.heap.objs.size globals ((yc, s.heap.objs.size + 1) :: cl) qual none .none (some env) builtinsNs) { s with heap := h', toks := s.toks }) :
    wpAny M A (newFunctionEnv scope globals cl [] qual none .none (some env)) Q E s := by
  simp only [newFunctionEnv, Option.isSome_some, if_true]
  refine wpAny_bind (wpAny_alloc ?_)
  refine wpAny_bind (wpAny_layCells _ (fun name kind cells => by cases hkc : kind == NameKind.cell <;> simp [hkc]) _ _ _ _ ?_)
  have ok := cellsFrom_ok scope.names (s.heap.push { cls := .type "dict", data := .dict #[] }) (s.heap.objs.size + 1) [] ⟨fun _ _ hm => (nomatch hm), List.Pairwise.nil⟩ (by rw [Heap.size_push]; exact Nat.le_refl _)
  rw [Heap.size_push] at ok
  rw [show ({ s with heap := s.heap.push { cls := .type "dict", data := .dict #[] } } : Shared).heap.objs.size = s.heap.objs.size + 1 from Heap.size_push ..]
  rw [hcf] at ok ⊢
  refine wpAny_bind ?_
  rw [List.forIn_nil]
  refine wpAny_pure (wpAny_pure ?_)
  exact hQ _ ((Heap.Ns.new s.heap (.type "dict")).keeps (pushCells_keeps _ _)) (fun b o e => pushCells_keeps _ _ b o (Heap.get?_push_of_some _ e)) (ok.empty _ _ List.mem_cons_self).1
noncomputable def cxComp1 (X : Cx) (pl : List (Addr × Obj)) (N' : List Str) (scope : Scope) (yc : Str) (fp : List Addr) (s3 : Shared) (H3 : Hp) : Cx where
  prog := X.prog
  w := X.w
  K := X.K
  mg := X.mg
  base := X.base
  A := X.A
  N := N'
  s₀ := s3
  H₀ := H3
  env := compEnv1 scope yc (clOf X.env.cells scope.names []) s3.heap.objs.size X.env
  outer := X.stack
  stack := X.stack
  ex := fp
  fn := fun x => x == yc
  calm := X.calm
  pn := pl
  xe := fun _ _ => False
structure CompSc1 (X : Cx) (scope : Scope) (yc : Str) : Prop where
  kind : scope.kind = .function
  cf : ∀ n acc, cellsFrom n scope.names acc = (yc, n) :: acc
  own : scope.names.lookup yc = some .cell
  one : ∀ y ∈ scope.names, y.2 = .cell → y.1 = yc
  names : ∀ y ∈ scope.names, y.2 = .local → scope.names.lookup y.1 = some .local
  free : ∀ y ∈ scope.names, y.2 = .free → X.env.kindOf y.1 = some .cell
section
variable {X : Cx} {pins : List (Addr × Obj)} {σ : St} {H3 : Hp} {s3 : Shared} {scope : Scope} {fp : List Addr} {N' own cn : List Str} {ci : List Nat} {cv : List V} {yc : Str}
theorem look1 {x : Str} {c n : Addr} {cl : List (Str × Addr)} (h : ((yc, n) :: cl).lookup x = some c) : (x = yc ∧ c = n) ∨ (x ≠ yc ∧ cl.lookup x = some c) := by
  rw [List.lookup_cons] at h
  cases hx : x == yc with
  | true => rw [hx] at h; cases h; exact .inl ⟨by simpa using hx, rfl⟩
  | false => rw [hx] at h; exact .inr ⟨by simpa using hx, h⟩
theorem look1_ne {x : Str} {n : Addr} {cl : List (Str × Addr)} (h : x ≠ yc) : ((yc, n) :: cl).lookup x = cl.lookup x := by
  rw [List.lookup_cons, show (x == yc) = false by simpa using h]
theorem comp1_has (ok : X.Ok) (S : CompSc1 X scope yc) {x : Str} {n : Addr} (h : (relabel scope X.env).names.lookup x = some .cell ∨ (relabel scope X.env).names.lookup x = some .free) :
    ∃ c, ((yc, n) :: clOf X.env.cells scope.names []).lookup x = some c := by
  by_cases hxy : x = yc
  · subst hxy
    exact ⟨n, by rw [List.lookup_cons, beq_self_eq_true]⟩
  rw [look1_ne hxy]
  have e : (relabel scope X.env).names.lookup x = (scope.names.lookup x).map fun k => if (k == NameKind.free && X.env.scope.kind == .function && X.env.kindOf x == some .cell) = true then NameKind.cell else k := lookup_relabel scope.names
  have hf : scope.names.lookup x = some .free := by
    cases q : scope.names.lookup x with
    | none => rw [e, q] at h; simp at h
    | some k =>
      by_cases hk : k = .free
      · rw [hk]
      · have hb : (k == NameKind.free) = false := by simpa using hk
        rw [e, q] at h
        simp only [Option.map_some, hb, Bool.false_and, Bool.false_eq_true, if_false, Option.some.injEq] at h
        rcases h with h | h
        · exact absurd (S.one _ (PySem.mem_of_lookup q) h) hxy
        · exact absurd h hk
  exact clOf_has (ok.has x (.inl (S.free _ (PySem.mem_of_lookup hf) rfl))) scope.names [] (PySem.mem_of_lookup hf)
theorem comp1_cl (I : Inv X pins σ H3 s3) {x : Str} {c n : Addr} (h : ((yc, n) :: clOf X.env.cells scope.names []).lookup x = some c) : (x = yc ∧ c = n) ∨ (x ≠ yc ∧ X.env.cells.lookup x = some c ∧ c < s3.heap.objs.size) := by
  rcases look1 h with z | ⟨z, e⟩
  · exact .inl z
  · have e' := comp_cl e
    obtain ⟨v, o, ho, -⟩ := I.cell x c e'
    exact .inr ⟨z, e', Heap.lt_size ho⟩
theorem comp1_ok (I : Inv X pins σ H3 s3) (S : CompSc1 X scope yc) (f : ∀ b ∈ fp, FpOk X pins H3 b) (fz : ∀ b ∈ fp, b < s3.heap.objs.size) : (cxComp1 X (X.pn ++ pins) N' scope yc fp s3 H3).Ok where
  mod := I.ok.mod
  kind := S.kind
  glob := I.ok.glob
  blt := I.ok.blt
  above := Nat.le_refl _
  inj := fun x y c h1 h2 => by
    rcases comp1_cl I h1 with ⟨a, b⟩ | ⟨a, b, d⟩ <;> rcases comp1_cl I h2 with ⟨a', b'⟩ | ⟨a', b', d'⟩
    · rw [a, a']
    · rw [b] at d'; exact absurd d' (Nat.not_lt.mpr (Nat.le_succ _))
    · rw [b'] at d; exact absurd d (Nat.not_lt.mpr (Nat.le_succ _))
    · exact I.ok.inj x y c b b'
  has := fun x h => comp1_has I.ok S h
  cab := fun x c h e => by
    have hx : x = yc := by simpa using (show (x == yc) = true from h)
    rcases comp1_cl I e with ⟨_, b⟩ | ⟨a, _⟩
    · rw [b]; exact Nat.le_succ _
    · exact absurd hx a
  hd := I.ok.hd
  frames := I.ok.frames
  stk := .inl rfl
  exf := fun b hb => ⟨Nat.ne_of_lt (fz b hb), fun x c h => by
    have := fz b hb
    rcases comp1_cl I h with ⟨_, d⟩ | ⟨_, d, _⟩
    · intro z
      rw [← z, d] at this; exact absurd this (Nat.not_lt.mpr (Nat.le_succ _))
    · exact (f b hb).2.2.2.2.1 x c d⟩
  bs := I.bs
  bsz := Nat.le_trans I.ok.bsz I.sz
  noex := fun b o e hb => by
    rcases (f b hb).2.2.2.1 with z | z
    · exact I.ok.noex b o e z
    · exact absurd (Nat.lt_of_lt_of_le (Heap.lt_size e) (Nat.le_trans I.ok.bsz z)) (Nat.lt_irrefl _)
  exfs := fun b hb z => by
    rcases List.mem_cons.mp (I.stkSub b z) with q | q
    · exact (f b hb).2.1 q
    · exact (f b hb).2.2.1 q
  funs := I.stack
  frf := I.stkFree
theorem comp1_inv {h1 : Heap} {t : Nat} (I : Inv X pins σ H3 s3) (S : CompSc1 X scope yc) (f : ∀ b ∈ fp, FpOk X pins H3 b) (fz : ∀ b ∈ fp, b < s3.heap.objs.size)
    (hN : N' = own ++ cn) (hc : CapOk X scope cn ci) (hv : ci.map (fun j => σ[j]?) = cv.map fun v => some (some v)) (hl : cn.length = ci.length)
    (hns : h1.Ns s3.heap.objs.size (fun _ => none)) (hk : ∀ b o, s3.heap.get? b = some o → h1.get? b = some o) (hcl : h1.IsCell (s3.heap.objs.size + 1) none) :
    Inv (cxComp1 X (X.pn ++ pins) N' scope yc fp s3 H3) [] (List.replicate own.length none ++ cv.map some) H3 { s3 with heap := h1, toks := t } := by
  have lenv : cv.length = ci.length := by
    have := congrArg List.length hv
    simpa using this.symm
  refine ⟨comp1_ok I S f fz, rfl, I.bare, Un.kept hk, ⟨_, hns, fun i x v e1 e2 e3 => ?_⟩, fun x c e => ?_, I.hok.fresh (Nat.le_refl _), fun x c e => ?_, fun p hp => ?_, I.hok.kept hk, ?_⟩
  · -- a captured name
    have hi : own.length ≤ i := by
      by_cases hi : own.length ≤ i
      · exact hi
      · rw [List.getElem?_append_left (by simpa using hi), List.getElem?_replicate] at e2
        split at e2 <;> cases e2
    rw [List.getElem?_append_right (by simpa using hi), List.length_replicate, List.getElem?_map] at e2
    have e1' : (own ++ cn)[i]? = some x := by rw [← hN]; exact e1
    rw [List.getElem?_append_right hi] at e1'
    obtain ⟨j, hj, hNj, hkx, hfr⟩ := hc.get e1'
    have hcv : cv[i - own.length]? = some v := by
      cases q : cv[i - own.length]? with
      | none => rw [q] at e2; cases e2
      | some v' => rw [q] at e2; cases e2; rfl
    have hσ : σ[j]? = some (some v) := by
      have := congrArg (fun l : List (Option (Option V)) => l[i - own.length]?) hv
      simp only [List.getElem?_map, hj, hcv, Option.map_some, Option.some.injEq] at this
      exact this
    obtain ⟨m, _, hl'⟩ := I.loc
    obtain ⟨u, r, q⟩ := hl' j x v hNj hσ (.inr (.inl hkx))
    have hkd : (relabel scope X.env).names.lookup x = some .cell ∨ (relabel scope X.env).names.lookup x = some .free := by
      have e : (relabel scope X.env).names.lookup x = (scope.names.lookup x).map fun k => if (k == NameKind.free && X.env.scope.kind == .function && X.env.kindOf x == some .cell) = true then NameKind.cell else k := lookup_relabel scope.names
      rw [e, hfr, Option.map_some]
      by_cases cc : (NameKind.free == NameKind.free && X.env.scope.kind == .function && X.env.kindOf x == some .cell) = true
      · rw [if_pos cc]; exact .inl rfl
      · rw [if_neg cc]; exact .inr rfl
    obtain ⟨c', hc'⟩ := comp1_has (n := s3.heap.objs.size + 1) I.ok S hkd
    have hxy : x ≠ yc := fun z => by rw [z, S.own] at hfr; cases hfr
    refine ⟨u, r, .inr ⟨hkd, c', hc', ?_⟩⟩
    rcases q with ⟨z, _⟩ | ⟨_, c, hcc, o, ho, hd⟩
    · rw [hkx] at z; cases z
    · have e : c = c' := Option.some.inj (hcc.symm.trans (comp_cl ((look1_ne hxy).symm.trans hc')))
      subst e
      exact ⟨o, hk c o ho, hd⟩
  · rcases comp1_cl I e with ⟨_, d⟩ | ⟨_, d, _⟩
    · rw [d]; exact ⟨_, hcl⟩
    · obtain ⟨v, o, ho, hd⟩ := I.cell x c d
      exact ⟨v, o, hk c o ho, hd⟩
  · rcases comp1_cl I e with ⟨_, d⟩ | ⟨_, d, _⟩
    · rw [d]; exact I.hok.fresh (Nat.le_succ _)
    · exact I.freeC x c d
  · have hp' : p ∈ X.pn ++ pins := by rw [List.append_nil] at hp; exact hp
    obtain ⟨e, n, ne, nf, d⟩ := I.pin p hp'
    refine ⟨hk _ _ e, n, Nat.ne_of_lt (Heap.lt_size e), fun z => ?_, d⟩
    rcases List.mem_cons.mp (I.stkSub p.1 z) with q | q
    · exact ne q
    · exact nf q
  · show (List.replicate own.length none ++ cv.map some).length = N'.length
    rw [hN, List.length_append, List.length_append, List.length_replicate, List.length_map, lenv, hl]
theorem comp1_core {elt target iter : Expr} {ifs : List Expr} {pos cpos : Pos} {wi : TI} {g : TG} {ti : TT} {te : TE} {use : Option (Value → Sem Unit)} {Q0 : Value → Shared → Prop} {s : Shared} {H : Hp} {Q : VK} (hcalm : X.calm = true) (S : CompSc1 X scope yc) (hc : CapOk X scope cn ci) (hl : cn.length = ci.length)
    (hi : PI X target iter wi) (hg : ∀ pl fp s3 H3, PG (cxComp1 X pl (own ++ cn) scope yc fp s3 H3) target g) (ht : ∀ pl fp s3 H3, PTs (cxComp1 X pl (own ++ cn) scope yc fp s3 H3) ifs ti)
    (he : ∀ pl fp s3 H3, PE (cxComp1 X pl (own ++ cn) scope yc fp s3 H3) elt te) (hs : ∀ x, foldedSetIterable iter X.env x = pure x) (I : Inv X pins σ H s) (h : tComp own.length ci wi g ti te σ H Q)
    (fin : ∀ (D C : Addr) (H5 : Hp) (s6 : Shared) (m6 : Str → Option Value), Inv X pins σ H5 s6 → s6.heap.Ns C m6 → H5 C = none → C ≠ X.env.locals → X.s₀.heap.objs.size ≤ C → (∀ x c, X.env.cells.lookup x = some c → c ≠ C) →
      (∀ p ∈ X.pn ++ pins, p.1 ≠ C) → Q (.ref D) H5 → compPost (model X.prog X.w) X.A X.xe use Q0 (.ref D) C (.ok .next) s6) :
    wpAny (model X.prog X.w) X.A (comprehension (.ListComp elt [⟨target, iter, ifs, 0⟩] scope pos) scope X.env cpos (newList []) false (eval iter X.env) use) Q0 X.xe s := by
  have hcl : closureFor scope X.env = pure (clOf X.env.cells scope.names []) := closureFor_eq fun y hy hf => I.ok.has y.1 (.inl (S.free y hy hf))
  refine wpAny_comprehension_free (use := use) rfl hs hcl S.kind S.names ?_
  refine thn (hi pins s σ H _ I h) fun v s1 h1 => thn h1 fun itv s2 h2 => ?_
  obtain ⟨it, fp, tn, J, H2, e, I2, T, st2, f2, cv, hv, hD⟩ := h2
  subst e
  have lenv : cv.length = ci.length := by
    have := congrArg List.length hv
    simpa using this.symm
  have I3 := I2.lnew (ys := []) (its := []) (t' := s2.toks) .nil (Nat.zero_le _)
  have hD' := hD s2.heap.objs.size I2.fresh
  have fz : ∀ b ∈ fp, b < s2.heap.objs.size := fun b hb => by
    obtain ⟨o, ho, -⟩ := T.obj _ _ st2 b hb
    exact Heap.lt_size ho
  refine wpAny_newObj_type ?_
  refine nfe_cell S.cf (fun h4 hns4 hk4 hc4 => ?_)
  generalize hs3 : ({ s2 with heap := s2.heap.push { cls := .type "list", dict := none, data := .seq ([] : List Value).toArray } } : Shared) = s3 at hns4 hk4 hc4 ⊢
  have I3' : Inv X pins σ (upd H2 s2.heap.objs.size (.lst [])) s3 := by rw [← hs3]; exact I3
  have hsz3 : s3.heap.objs.size = s2.heap.objs.size + 1 := by rw [← hs3]; exact Heap.size_push ..
  have k23 : ∀ b o, s2.heap.get? b = some o → s3.heap.get? b = some o := fun b o e => by rw [← hs3]; exact Heap.get?_push_of_some _ e
  have k34 : ∀ b o, s3.heap.get? b = some o → h4.get? b = some o := hk4
  have nD : ∀ b ∈ fp, b ≠ s2.heap.objs.size := fun b hb => Nat.ne_of_lt (fz b hb)
  have f3 : ∀ b ∈ fp, FpOk X pins (upd H2 s2.heap.objs.size (.lst [])) b := fun b hb => ⟨by rw [upd_ne (nD b hb)]; exact (f2 b hb).1, (f2 b hb).2⟩
  have fz3 : ∀ b ∈ fp, b < s3.heap.objs.size := fun b hb => by rw [hsz3]; exact Nat.lt_succ_of_lt (fz b hb)
  have I4 : Inv (cxComp1 X (X.pn ++ pins) (own ++ cn) scope yc fp s3 (upd H2 s2.heap.objs.size (.lst []))) [] (List.replicate own.length none ++ cv.map some) (upd H2 s2.heap.objs.size (.lst [])) { s3 with heap := h4, toks := s3.toks } :=
    comp1_inv I3' S f3 fz3 rfl hc hv hl hns4 k34 hc4
  have st4 : tn 0 h4 := T.keep _ _ _ st2 fun b hb o e => k34 b o (k23 b o e)
  have loop := comp_rest (own := own) (use := use) (Q0 := Q0) (pos := pos) (iter := iter) (scope := scope) (X' := cxComp1 X (X.pn ++ pins) (own ++ cn) scope yc fp s3 (upd H2 s2.heap.objs.size (.lst []))) T hD' I3' f3 I4 st4 (hg _ _ _ _) (ht _ _ _ _) (he _ _ _ _) rfl rfl rfl rfl rfl rfl rfl hcalm rfl rfl rfl rfl rfl fin
  exact codeAny_compStart_list loop (T.self X.A 0 _ _ _ st4 loop)
theorem ps_setC1 {elt target iter : Expr} {ifs : List Expr} {pos pos' cpos : Pos} {wi : TI} {g : TG} {ti : TT} {te : TE} {i : Nat} {x : Str} (hN : X.N.Nodup) (hix : X.N[i]? = some x) (hx : Loc X.env.scope x) (hcalm : X.calm = true) (S : CompSc1 X scope yc) (hc : CapOk X scope cn ci) (hl : cn.length = ci.length)
    (hi : PI X target iter wi) (hg : ∀ pl fp s3 H3, PG (cxComp1 X pl (own ++ cn) scope yc fp s3 H3) target g) (ht : ∀ pl fp s3 H3, PTs (cxComp1 X pl (own ++ cn) scope yc fp s3 H3) ifs ti)
    (he : ∀ pl fp s3 H3, PE (cxComp1 X pl (own ++ cn) scope yc fp s3 H3) elt te) (hs : ∀ x, foldedSetIterable iter X.env x = pure x := by intro _; rfl)
    (hsw : swapsWith (.ListComp elt [⟨target, iter, ifs, 0⟩] scope cpos) (some (.Name x pos')) pos.line X.env = pure true := by rfl)
    (hf : X.fn x = true ∨ X.env.scope.names.lookup x = some .local := by first | exact .inl rfl | exact .inr rfl | assumption) :
    PS X (.Assign [.Name x pos'] (.ListComp elt [⟨target, iter, ifs, 0⟩] scope cpos) pos) (tAsg (tComp own.length ci wi g ti te) (gName i)) := by
  intro pins s σ H D I h
  rw [exec_Assign_Name_used _ _ _ _ hsw]
  refine wpAny_bind (wpAny_standAt (wpAny_bind ?_))
  show wpAny _ X.A (do let _ ← comprehension (.ListComp elt [⟨target, iter, ifs, 0⟩] scope cpos) scope X.env _ (newList []) false (eval iter X.env) (some (assign (.Name x pos') X.env))) _ _ s
  refine wpAny_bind (wpAny_mono (comp1_core (use := some (assign (.Name x pos') X.env)) (Q0 := fun _ s' => SP X pins D .next s') hcalm S hc hl hi hg ht he hs I h (fun D' C H5 s6 m6 I7 hn fr nL ge nC nP q => ?_)) (fun _ s' hq => wpAny_pure (wpAny_pure hq)) fun _ _ e => e)
  obtain ⟨oC, es, ep, hoC, hd, r1⟩ := hn
  have nf : C ∉ X.fs := fun hb => by
    obtain ⟨_, o, ho, -⟩ := I7.ok.funs.mem hb
    exact absurd (Nat.lt_of_lt_of_le (Heap.lt_size ho) ge) (Nat.lt_irrefl _)
  have I7' : Inv X (pins ++ [(C, oC)]) σ H5 s6 := I7.pins_of fun p hp => by
    rcases List.mem_append.mp hp with z | z
    · exact I7.pin p (List.mem_append_right _ z)
    · rw [List.mem_singleton.mp z]
      exact ⟨hoC, fr, nL, nf, fun v e => by rw [hd] at e; cases e⟩
  show wpAny _ X.A (assign (.Name x pos') X.env (.ref D')) _ _ s6
  refine wpAny_assign_Name (store_ok I7' hN hix hx (show RelV (.ref D') (.ref D') from rfl) (fun s' I' => ?_) hf)
  have hC' := (I'.pin (C, oC) (List.mem_append_right _ (List.mem_append_right _ (List.mem_singleton.mpr rfl)))).1
  refine ⟨m6, ⟨oC, es, ep, hC', hd, r1⟩, fun h' hs' => ⟨_, H5, ?_, q⟩⟩
  have I2 : Inv X pins (σ.set i (some (.ref D'))) H5 s' := I'.pins_of fun p hp => I'.pin p (List.mem_append_right _ (List.mem_append_left _ hp))
  exact I2.turned (t' := s'.toks) (it := C) (fun b o hb e => hs'.extBut b o hb e) fr nL (.inr ge) nC nP
end
noncomputable def cscOk1 (outer inner : Scope) (yc : Str) : Bool := inner.names.all fun y => (y.2 != .cell || y.1 == yc) && (y.2 != .local || inner.names.lookup y.1 == some .local) && (y.2 != .free || outer.names.lookup y.1 == some .cell)
theorem csc1 {X : Cx} {scope : Scope} {yc : Str} (hk : scope.kind = .function) (hcf : ∀ n acc, cellsFrom n scope.names acc = (yc, n) :: acc) (ho : scope.names.lookup yc = some .cell) (h : cscOk1 X.env.scope scope yc = true) : CompSc1 X scope yc := by
  have a := List.all_eq_true.mp h
  refine ⟨hk, hcf, ho, fun y hy e => ?_, fun y hy e => ?_, fun y hy e => ?_⟩
  · have := a y hy
    rw [e] at this
    simpa using this
  · have := a y hy
    rw [e] at this
    simpa using this
  · have := a y hy
    rw [e] at this
    have h2 : X.env.scope.names.lookup y.1 = some .cell := by simpa using this
    exact h2
end L2
namespace L2
open PySem PySem.Spec PyProof.Rows
inductive tLRange_r (Q : VK) (vs : List V) (H1 : Hp) : Prop
  | mk : ∀ j : Int, (vs = [.int j]) → (0 ≤ j) → (j ≤ 1000) → (∀ l, H1 l = none → Q (.ref l) (upd H1 l (.lst ((WM.lowTo j.toNat).map V.int)))) → tLRange_r Q vs H1
noncomputable def tLRange (ta : TA) : TE := fun σ H Q => ta σ H fun vs H1 => tLRange_r Q vs H1
theorem vals_low : ∀ (vs : List Value) (n : Nat), vs.length = n → (∀ (j : Nat) (v : Value), vs[j]? = some v → ∃ t, v = .int (0 + (j : Int) * 1) t) → Vals ((WM.lowTo n).map V.int) vs := by
  have key : ∀ (vs : List Value) (a : Nat), (∀ (j : Nat) (v : Value), vs[j]? = some v → ∃ t, v = .int ((a + j : Nat) : Int) t) → Vals ((List.range' a vs.length).map fun (i : Nat) => V.int (i : Int)) vs := by
    intro vs
    induction vs with
    | nil => intro _ _; exact .nil
    | cons v r ih =>
      intro a h
      obtain ⟨t, ht⟩ := h 0 v rfl
      rw [List.length_cons, List.range'_succ, List.map_cons]
      refine .cons ⟨t, by rw [ht]; rfl⟩ (ih (a + 1) fun j u hj => ?_)
      obtain ⟨t', ht'⟩ := h (j + 1) u hj
      exact ⟨t', by rw [ht']; congr 1; (first | lia | omega)⟩
  intro vs n e h
  subst e
  have := key vs 0 fun j v hj => by
    obtain ⟨t, ht⟩ := h j v hj
    exact ⟨t, by rw [ht]; congr 1; (first | lia | omega)⟩
  unfold WM.lowTo
  rw [List.map_map, List.range_eq_range']
  exact this
section
variable {X : Cx}
theorem pe_lrange {a : Expr} {ta : TA} {p1 p2 pos1 pos2 : Pos} (hc : X.calm = true) (hgL : Gl X "list") (hmL : X.mg "list" = none) (hgR : Gl X "range") (hmR : X.mg "range" = none) (ha : PA X [a] ta) (hs : starEach [a] X.env = [(false, eval a X.env)] := by rfl)
    (he : starEach [.Call (.Name "range" p2) [a] [] pos2] X.env = [(false, eval (.Call (.Name "range" p2) [a] [] pos2) X.env)] := by rfl) : PE X (.Call (.Name "list" p1) [.Call (.Name "range" p2) [a] [] pos2] [] pos1) (tLRange ta) := by
  intro pins s σ H Q I h
  refine wpAny_Call_Name_kw (ld_blt I hgL hmL (by decide +kernel : bootBuiltins "list" = some (.type "list")) ?_ (by decide) (by decide))
  refine PyProof.Rows.callWith_type1 ?_ he rfl
  rw [he]
  refine Calls.spliced_cons ?_
  refine Call_ (ld_blt I hgR hmR boot_range (PyProof.Rows.callWith_type1 (thnA (ha pos2 pins s σ H _ I h) fun us s1 vs H1 I1 r1 q1 => ?_) hs rfl))
  obtain ⟨j, e, h0, h1, q⟩ := q1
  subst e
  cases r1 with
  | cons r rr =>
    cases rr
    obtain ⟨t, rfl⟩ := r
    refine call_range_1 ?_
    refine Calls.spliced_nil ?_
    have hz : Builtin.Range.rangeSize 0 j 1 = (j.toNat : Int) := by rw [rangeSize_one]; split <;> (first | lia | omega)
    refine call_list_range (I.ok.hd hc) (IsRange.new ..) (small_one om om om om) hz om fun h' tk acc c' kp hD hI => ?_
    have kp1 : ∀ b o, s1.heap.get? b = some o → h'.get? b = some o := fun b o e => kp b o (Heap.get?_push_of_some _ e)
    have rv : Vals ((WM.lowTo j.toNat).map V.int) acc.toList := vals_low acc.toList _ (by rw [Array.length_toList]; exact hI.1) fun i v hi => hI.2 i v (by rw [← hi, Array.getElem?_toList])
    have hsz : s1.heap.objs.size ≤ (s1.heap.push { cls := .type "range", data := .fields #[.int 0 s1.toks, .int j t, .int 1 (s1.toks + 1)] }).objs.size := by rw [Heap.size_push]; exact Nat.le_succ _
    refine ⟨.ref _, _, I1.laid (t' := tk) kp1 hsz (show ObjOk X.prog X.w _ h' _ (.lst ((WM.lowTo j.toNat).map V.int)) from ⟨?_, acc.toList, c', rv, by rw [Array.toArray_toList]; exact hD⟩), rfl, q _ (I1.hok.fresh hsz)⟩
    rw [List.length_map, WM.lowTo, List.length_map, List.length_range]
    have : sizeLine = 16777216 := rfl
    (first | lia | omega)
inductive rc_7 (K : PySem.W.Frag) (xs : List V) (H : Hp) (Q : VK) : Prop
  | mk : ∀ (p : Addr) (ns : List Int), (xs = [.ref p]) → (SqL K H p (ns.map V.int)) → (ns.length < 64) → (∀ (l : Addr) (ms : List Int), H l = none → ms.Perm ns → ms.Pairwise (· ≤ ·) → Q (.ref l) (upd H l (.lst (ms.map V.int)))) → rc_7 K xs H Q
theorem call_sortedI : CallR X (.builtin "sorted") (rc_7 X.K) := by
  intro pins s σ H xs us Q I r h
  obtain ⟨p, ns, rfl, hq, h64, q⟩ := h
  obtain ⟨u, rfl, rx⟩ := vals1 r
  cases rx
  obtain ⟨its, r', pl, hz⟩ := I.list hq
  have hI : IntsAre its ns := intsAre_of r'
  have hl := hI.length
  refine SortT.sorted_list (O := intO) (key := fun i => ns.getD i 0) (κ := oneType') pl.isList om (fun h2 s' a fa kp => asks_ints hI h2) fun D h' out c pt hD kp ho => ?_
  obtain ⟨ms, hp, hr, rz, hlz⟩ := put_ints hI pt
  refine ⟨.ref D, _, sorted_fin (t' := s.toks) I hD kp ho rz ?_, rfl, q D ms (I.hok.fresh hD) hp hr⟩
  have : sizeLine = 16777216 := rfl
  rw [List.length_map]
  (first | lia | omega)
end
section
variable {X : Cx} {pl : List (Addr × Obj)} {N' : List Str} {sc : Scope} {fp : List Addr} {s3 : Shared} {H3 : Hp}
theorem call_len_seqC : CallR (cxComp X pl N' sc fp s3 H3) (.builtin "len") (rc_1 X.K) := call_len_seq
theorem pe_bmC {o e : Expr} {es : List Expr} {to : TE} {t : TA} {name : Str} {apos cpos : Pos} {T id : String} {r : V → List V → Hp → VK → Prop} (pa : PlainAttrs T) (slot : Slot T name id) (hty : typeOf (.builtin id) = pure (.type "method_descriptor")) (hm : MtR (cxComp X pl N' sc fp s3 H3) id r) (ho : PE (cxComp X pl N' sc fp s3 H3) o to) (ha : PA (cxComp X pl N' sc fp s3 H3) (e :: es) t)
    (hbase : attributeBase o name (cxComp X pl N' sc fp s3 H3).env (eval o (cxComp X pl N' sc fp s3 H3).env) = eval o (cxComp X pl N' sc fp s3 H3).env := by rfl)
    (hfew : ((backTo cpos (starEach (e :: es) (cxComp X pl N' sc fp s3 H3).env)).all (fun x => !x.1) && (backToKw cpos (keywordEach [] (cxComp X pl N' sc fp s3 H3).env)).all (fun x => x.1.isSome)
      && decide ((e :: es).length + ([] : List Keyword).length + (if ([] : List Keyword).isEmpty then 0 else 1) < 30)) = true := by rfl)
    (hline : (apos.endLine == cpos.line) = true := by rfl) (hs : starEach (e :: es) (cxComp X pl N' sc fp s3 H3).env = (false, eval e (cxComp X pl N' sc fp s3 H3).env) :: starEach es (cxComp X pl N' sc fp s3 H3).env := by rfl) (hplain : (backTo cpos (starEach es (cxComp X pl N' sc fp s3 H3).env)).any (·.1) = false := by rfl) :
    PE (cxComp X pl N' sc fp s3 H3) (.Call (.Attribute o name apos) (e :: es) [] cpos) (tBM X.K T r to t) := pe_bm pa slot hty hm ho ha hbase hfew hline hs hplain
end
section
variable {X : Cx}
inductive rNeE_r (K : PySem.W.Frag) (x : V) (y : V) (H : Hp) (Q : VK) : Prop
  | mk : ∀ (a b : Addr) (xs : List V), (x = .ref a) → (y = .ref b) → (SqL K H a xs) → (SqL K H b []) → (Q (.bl (!xs.isEmpty)) H) → rNeE_r K x y H Q
noncomputable def rNeE (K : PySem.W.Frag) : R2 := fun x y H Q => rNeE_r K x y H Q
theorem op_neE (hu : X.A.units < cLine) : OpR X (compareOp .NotEq) (rNeE X.K) := by
  intro pins s σ H x y v u Q I rx ry h
  obtain ⟨a, b, xs, rfl, rfl, ha, hb, q⟩ := h
  cases rx
  cases ry
  obtain ⟨its, r, pl, hz⟩ := I.list ha
  obtain ⟨its2, r2, pl2, hz2⟩ := I.list hb
  have l1 := r.length
  have l2 := r2.length
  cases xs with
  | nil =>
    refine PySem.EqBoolInt.of_rcne (SeqAt.RcNeAt.lists (e := fun _ => true) pl.isList pl2.isList (by rw [List.size_toArray, List.size_toArray, ← l1, ← l2]) hu (fun j a b => absurd a (by rw [List.size_toArray, ← l1]; exact Nat.not_lt_zero _))) ⟨.bl _, H, I, rfl, ?_⟩
    rw [List.size_toArray, ← l1]
    exact q
  | cons x xs =>
    refine PySem.EqBoolInt.of_rcne (SeqAt.RcNeAt.lists_lengths pl.isList pl2.isList (by rw [List.size_toArray, List.size_toArray, ← l1, ← l2]; rfl) hu) ⟨.bl _, H, I, rfl, ?_⟩
    exact q
end
end L2
namespace L2
open PySem PyProof.Rows
noncomputable def Kp (s0 : Shared) (h : Heap) : Prop := ∀ b o, s0.heap.get? b = some o → h.get? b = some o
structure MinIt (prog : Program) (w : World) (A : Around) (s0 : Shared) (I : Addr) (its : List Value) (itAt : Nat → Heap → Prop) : Prop where
  stay : ∀ j h h', itAt j h → h'.get? I = h.get? I → itAt j h'
  next : ∀ (j : Nat) (h : Heap) (tk : Nat) (v : Value) (Q : Option Value → Shared → Prop) (E : Value → Shared → Prop), Kp s0 h → itAt j h → its[j]? = some v →
    (∀ h', itAt (j + 1) h' → (∀ b, b ≠ I → h'.get? b = h.get? b) → Q (some v) { s0 with heap := h', toks := tk }) → wpAny (model prog w) A (pyNext (.ref I)) Q E { s0 with heap := h, toks := tk }
  fin : ∀ (j : Nat) (h : Heap) (tk : Nat) (Q : Option Value → Shared → Prop) (E : Value → Shared → Prop), Kp s0 h → itAt j h → its[j]? = none →
    (∀ h', (∀ b o, b ≠ I → h.get? b = some o → h'.get? b = some o) → Q none { s0 with heap := h', toks := tk }) → wpAny (model prog w) A (pyNext (.ref I)) Q E { s0 with heap := h, toks := tk }
section
variable {prog : Program} {w : World} {A : Around} {s0 : Shared} {I S : Addr} {its : List Value} {itAt : Nat → Heap → Prop}
theorem Kp.upd {h : Heap} {f : Obj → Obj} (K : Kp s0 h) (hS : s0.heap.objs.size ≤ S) : Kp s0 (h.update S f) := fun b o e => by
  rw [Heap.get?_update_ne _ _ _ _ (Nat.ne_of_lt (Nat.lt_of_lt_of_le (Heap.lt_size e) hS))]; exact K b o e
theorem Kp.but {h h' : Heap} (K : Kp s0 h) (hI : s0.heap.objs.size ≤ I) (k : ∀ b o, b ≠ I → h.get? b = some o → h'.get? b = some o) : Kp s0 h' := fun b o e =>
  k b o (Nat.ne_of_lt (Nat.lt_of_lt_of_le (Heap.lt_size e) hI)) (K b o e)
theorem minD_loop {R : Result → Shared → Prop} {kw : List (Str × Value)} (M : MinIt prog w A.in1 s0 I its itAt) (bt : Nat → Nat → Bool) (hS : s0.heap.objs.size ≤ S) (hI : s0.heap.objs.size ≤ I) (hSI : S ≠ I)
    (cmp : ∀ (i j : Nat) (vi vj : Value) (h : Heap) (tk : Nat) (Q E : Value → Shared → Prop), Kp s0 h → its[i]? = some vi → its[j]? = some vj → Q (.bool (bt i j)) { s0 with heap := h, toks := tk } → wpAny (model prog w) A.in1 (richCompare .Lt vi vj) Q E { s0 with heap := h, toks := tk })
    (hR : ∀ (v : Value) (h : Heap) (tk : Nat), its[argBest bt (its.length - 1)]? = some v → Kp s0 h → R (.ok (.ret v)) { s0 with heap := h, toks := tk })
    : ∀ (r j : Nat) (h : Heap) (tk : Nat) (vb : Value) (c : Nat), its.length - (j + 1) = r → j + 1 ≤ its.length → Kp s0 h → itAt (j + 1) h → its[argBest bt j]? = some vb →
      h.get? S = some { cls := .type "list", data := .seq #[vb, vb] c } → codeAny (model prog w) A (.builtin "min.loop" { pos := [.ref I, .none, .ref S], kw := kw }) R { s0 with heap := h, toks := tk } := by
  intro r
  induction r with
  | zero =>
    intro j h tk vb c hr hj K hit hv hSo
    refine codeAny_builtin PySem.F.entry_min_loop ?_
    unfold Builtin.«min.loop»
    refine wpAny_bind (wpAny_seqItems hSo rfl ?_)
    dsimp only
    refine wpAny_bind (wpAny_tryCatch (M.fin (j + 1) h tk _ _ K hit (List.getElem?_eq_none om) fun h' k => ?_))
    have hS' := k S _ hSI hSo
    refine wpAny_bind (wpAny_updateSeq hS' rfl (wpAny_bind (wpAny_letGo (wpAny_pure ?_))) (by show 2 ≤ sizeLine; decide) (by show 0 ≤ sizeLine + 1; decide))
    refine hR vb _ tk ?_ ((K.but hI k).upd hS)
    rw [show its.length - 1 = j by first | lia | omega]; exact hv
  | succ r ih =>
    intro j h tk vb c hr hj K hit hv hSo
    obtain ⟨x, hx⟩ : ∃ x, its[j + 1]? = some x := ⟨_, List.getElem?_eq_getElem om⟩
    refine codeAny_builtin PySem.F.entry_min_loop ?_
    unfold Builtin.«min.loop»
    refine wpAny_bind (wpAny_seqItems hSo rfl ?_)
    dsimp only
    refine wpAny_bind (wpAny_tryCatch (M.next (j + 1) h tk x _ _ K hit hx fun h' hit' k => ?_))
    have K' : Kp s0 h' := K.but hI fun b o hb e => by rw [k b hb]; exact e
    have hS' : h'.get? S = some { cls := .type "list", data := .seq #[vb, vb] c } := by rw [k S hSI]; exact hSo
    refine wpAny_bind (wpAny_pure ?_)
    refine wpAny_bind (wpAny_tryCatch (wpAny_holding (wpAny_bind (cmp (j + 1) (argBest bt j) x vb h' tk _ _ K' hx hv ?_))))
    refine wpAny_bind (wpAny_holding (wpAny_truthy_bool (wpAny_bind (wpAny_letGo (wpAny_pure ?_)))))
    have eb : argBest bt (j + 1) = if bt (j + 1) (argBest bt j) = true then j + 1 else argBest bt j := argBest.eq_2 bt j
    cases e : bt (j + 1) (argBest bt j) with
    | true =>
      rw [if_pos e] at eb
      refine wpAny_bind (wpAny_updateSeq hS' rfl (wpAny_bind (wpAny_letGo (wpAny_pure ⟨rfl, ?_⟩))) (by show 2 ≤ sizeLine; decide) (by show 2 ≤ sizeLine + 1; decide))
      exact ih (j + 1) _ tk x c om om (K'.upd hS) (M.stay _ _ _ hit' (Heap.get?_update_ne _ _ _ _ (Ne.symm hSI))) (by rw [eb]; exact hx) (Heap.get?_update_self _ hS' rfl)
    | false =>
      rw [e, if_neg (by decide)] at eb
      refine wpAny_bind (wpAny_letGo (wpAny_pure ⟨rfl, ?_⟩))
      exact ih (j + 1) h' tk vb c om om K' hit' (by rw [eb]; exact hv) hS'
theorem minD_first {R : Result → Shared → Prop} {d : Value} (M : MinIt prog w A.in1 s0 I its itAt) (bt : Nat → Nat → Bool) (hS : s0.heap.objs.size ≤ S) (hI : s0.heap.objs.size ≤ I) (hSI : S ≠ I)
    (cmp : ∀ (i j : Nat) (vi vj : Value) (h : Heap) (tk : Nat) (Q E : Value → Shared → Prop), Kp s0 h → its[i]? = some vi → its[j]? = some vj → Q (.bool (bt i j)) { s0 with heap := h, toks := tk } → wpAny (model prog w) A.in1 (richCompare .Lt vi vj) Q E { s0 with heap := h, toks := tk })
    (hR : ∀ (v : Value) (h : Heap) (tk : Nat), its[argBest bt (its.length - 1)]? = some v → Kp s0 h → R (.ok (.ret v)) { s0 with heap := h, toks := tk })
    (h0 : its = [] → ∀ (h : Heap) (tk : Nat), Kp s0 h → R (.ok (.ret d)) { s0 with heap := h, toks := tk })
    (h : Heap) (tk : Nat) (c : Nat) (K : Kp s0 h) (hit : itAt 0 h) (hSo : h.get? S = some { cls := .type "list", data := .seq #[] c }) :
    codeAny (model prog w) A (.builtin "min.loop" { pos := [.ref I, .none, .ref S], kw := [(Str.ofString "default", d)] }) R { s0 with heap := h, toks := tk } := by
  refine codeAny_builtin PySem.F.entry_min_loop ?_
  unfold Builtin.«min.loop»
  refine wpAny_bind (wpAny_seqItems hSo rfl ?_)
  dsimp only
  cases e : its with
  | nil =>
    subst e
    refine wpAny_bind (wpAny_tryCatch (M.fin 0 h tk _ _ K hit rfl fun h' k => ?_))
    exact wpAny_bind (wpAny_rule (wpAny_pure (h0 rfl h' tk (K.but hI k))))
  | cons x xs =>
    have hx : its[0]? = some x := by rw [e]; rfl
    refine wpAny_bind (wpAny_tryCatch (M.next 0 h tk x _ _ K hit hx fun h' hit' k => ?_))
    have K' : Kp s0 h' := K.but hI fun b o hb e => by rw [k b hb]; exact e
    have hS' : h'.get? S = some { cls := .type "list", data := .seq #[] c } := by rw [k S hSI]; exact hSo
    refine wpAny_bind (wpAny_pure ?_)
    refine wpAny_bind (wpAny_updateSeq hS' rfl (wpAny_pure ⟨rfl, ?_⟩) (by show 0 ≤ sizeLine; decide) (by show 2 ≤ sizeLine + 1; decide))
    refine minD_loop M bt hS hI hSI cmp hR (its.length - 1) 0 _ tk x (c + 1) rfl (by rw [e]; simp) (K'.upd hS) (M.stay _ _ _ hit' (Heap.get?_update_ne _ _ _ _ (Ne.symm hSI))) hx (Heap.get?_update_self _ hS' rfl)
end
end L2
namespace L2
open PySem PyProof.Rows
theorem wpAny_of_eq {α : Type} {M : Model} {A : Around} {E : Value → Shared → Prop} {s : Shared} {m m' : Sem α} {Q : α → Shared → Prop} (e : m = m') (h : wpAny M A m' Q E s) : wpAny M A m Q E s := by subst e; exact h
theorem argBest_ord {O : KeyOrd} (ky : Nat → O.α) : ∀ k, argBest (fun i j => O.blt (ky i) (ky j)) k ≤ k ∧ ∀ j, j ≤ k → O.blt (ky j) (ky (argBest (fun i j => O.blt (ky i) (ky j)) k)) = false
  | 0 => ⟨Nat.le_refl _, fun j hj => by obtain rfl : j = 0 := by first | lia | omega
                                        exact O.irrefl _⟩
  | k + 1 => by
    obtain ⟨h1, h2⟩ := argBest_ord ky k
    rw [argBest.eq_2]
    cases e : O.blt (ky (k + 1)) (ky (argBest (fun i j => O.blt (ky i) (ky j)) k)) with
    | true =>
      rw [if_pos rfl]
      refine ⟨Nat.le_refl _, fun j hj => ?_⟩
      by_cases c : j = k + 1
      · subst c; exact O.irrefl _
      · cases e2 : O.blt (ky j) (ky (k + 1)) with
        | false => rfl
        | true => rw [← h2 j om]; exact (O.trans _ _ _ e2 e).symm
    | false =>
      rw [if_neg (by decide)]
      refine ⟨om, fun j hj => ?_⟩
      by_cases c : j = k + 1
      · subst c; exact e
      · exact h2 j om
theorem call_minD {prog : Program} {w : World} {A : Around} {s : Shared} {p : Addr} {its : List Value} {d : Value} {Q E : Value → Shared → Prop} (hA : A.handled = none) (bt : Nat → Nat → Bool) (hp : s.heap.IsList p its.toArray ∨ s.heap.IsTuple p its.toArray)
    (cmp : ∀ (i j : Nat) (vi vj : Value) (h : Heap) (tk : Nat) (Q E : Value → Shared → Prop), Kp s h → its[i]? = some vi → its[j]? = some vj → Q (.bool (bt i j)) { s with heap := h, toks := tk } → wpAny (model prog w) A.in1 (richCompare .Lt vi vj) Q E { s with heap := h, toks := tk })
    (hR : ∀ (v : Value) (h : Heap) (tk : Nat), its[argBest bt (its.length - 1)]? = some v → Kp s h → Q v { s with heap := h, toks := tk })
    (h0 : its = [] → ∀ (h : Heap) (tk : Nat), Kp s h → Q d { s with heap := h, toks := tk }) :
    wpAny (model prog w) A (call (.builtin "min") [.ref p] [(Str.ofString "default", d)]) Q E s := by
  refine wpAny_call (codeAny_call_builtin PySem.F.plain_min PySem.F.entry_min (wpAny_of_eq (show checkBuiltinCall "min" { pos := [.ref p], kw := [(Str.ofString "default", d)] } = pure () from rfl) (wpAny_pure ?_)))
  unfold Builtin.min
  refine wpAny_bind (wpAny_of_eq (show Builtin.Builtins.bindParams "min" ["key", "default"] 0 { kw := [(Str.ofString "default", d)] } = pure [none, some d] from rfl) (wpAny_pure ?_))
  dsimp only
  refine wpAny_bind (wpAny_pure ?_)
  have kp0 : ∀ (o1 o2 : Obj), Kp s ((s.heap.push o1).push o2) := fun o1 o2 b o e => Heap.get?_push_of_some _ (Heap.get?_push_of_some _ e)
  rcases hp with hp | hp
  · refine wpAny_bind (wpAny_pyIter_list hp (wpAny_bind (wpAny_newList (wpAny_pure ⟨rfl, ?_⟩) (by show 0 ≤ sizeLine; decide))))
    have hSe : (s.heap.push { cls := .type "list_iterator", data := .fields #[.ref p, .int 0 0] }).objs.size = s.heap.objs.size + 1 := Heap.size_push ..
    rw [hSe]
    refine minD_first (s0 := s) (I := s.heap.objs.size) (S := s.heap.objs.size + 1) (itAt := fun j h => h.IsListIter s.heap.objs.size p j) ⟨fun j h h' a e => ?_, fun j h tk v Q E K hit hv q => ?_, fun j h tk Q E K hit hv q => ?_⟩ bt (Nat.le_succ _) (Nat.le_refl _) (Nat.succ_ne_self _) cmp hR h0 _ s.toks 0 (kp0 _ _) ?_ ?_
    · obtain ⟨o, ho, hc⟩ := a
      exact ⟨o, by rw [e]; exact ho, hc⟩
    · obtain ⟨o, ho, hc⟩ := hp
      exact wpAny_pyNext_list_item hit ⟨o, K _ _ ho, hc⟩ (by rw [List.getElem?_toArray]; exact hv) fun h' a b => q h' a fun c hc => b.2 c hc
    · obtain ⟨o, ho, hc⟩ := hp
      exact wpAny_pyNext_list_end hA hit ⟨o, K _ _ ho, hc⟩ (by rw [List.getElem?_toArray]; exact hv) fun h' b => q h' b
    · exact ⟨_, Heap.get?_push_of_some _ (Heap.get?_push_size _ rfl), rfl, rfl⟩
    · rw [← hSe]; exact Heap.get?_push_size _ rfl
  · refine wpAny_bind (wpAny_pyIter_tuple hp (wpAny_bind (wpAny_newList (wpAny_pure ⟨rfl, ?_⟩) (by show 0 ≤ sizeLine; decide))))
    have hSe : (s.heap.push { cls := .type "tuple_iterator", data := .fields #[.ref p, .int 0 0] }).objs.size = s.heap.objs.size + 1 := Heap.size_push ..
    rw [hSe]
    refine minD_first (s0 := s) (I := s.heap.objs.size) (S := s.heap.objs.size + 1) (itAt := fun j h => h.IsTupleIter s.heap.objs.size p j) ⟨fun j h h' a e => ?_, fun j h tk v Q E K hit hv q => ?_, fun j h tk Q E K hit hv q => ?_⟩ bt (Nat.le_succ _) (Nat.le_refl _) (Nat.succ_ne_self _) cmp hR h0 _ s.toks 0 (kp0 _ _) ?_ ?_
    · obtain ⟨o, ho, hc⟩ := a
      exact ⟨o, by rw [e]; exact ho, hc⟩
    · obtain ⟨o, ho, hc⟩ := hp
      exact wpAny_pyNext_tuple_item hit ⟨o, K _ _ ho, hc⟩ (by rw [List.getElem?_toArray]; exact hv) fun h' a b => q h' a fun c hc => b.2 c hc
    · obtain ⟨o, ho, hc⟩ := hp
      exact wpAny_pyNext_tuple_end hA hit ⟨o, K _ _ ho, hc⟩ (by rw [List.getElem?_toArray]; exact hv) fun h' b => q h' b
    · exact ⟨_, Heap.get?_push_of_some _ (Heap.get?_push_size _ rfl), rfl, rfl⟩
    · rw [← hSe]; exact Heap.get?_push_size _ rfl
section
variable {X : Cx}
inductive rMinD_r (K : PySem.W.Frag) (x : V) (dv : V) (H : Hp) (Q : VK) : Prop
  | mk : ∀ (p : Addr) (ys : List V), (x = .ref p) → ((SqL K H p ys ∨ SqT K H p ys)) → ((ys = [] → Q dv H)) → (((∃ ks, TupsAre H ys ks ∧ ∀ (i : Nat) (y : V) (k : List Int), ys[i]? = some y → ks[i]? = some k → (∀ k' ∈ ks, HT.lexLt k' k = false) → Q y H) ∨ (∃ ns : List Int, ys = ns.map V.int ∧ ∀ n ∈ ns, (∀ m ∈ ns, n ≤ m) → Q (.int n) H))) → rMinD_r K x dv H Q
noncomputable def rMinD (K : PySem.W.Frag) (x dv : V) (H : Hp) (Q : VK) : Prop := rMinD_r K x dv H Q
inductive tMinD_r (K : PySem.W.Frag) (td : TE) (σ : St) (Q : VK) (vs : List V) (H1 : Hp) : Prop
  | mk : ∀ x, (vs = [x]) → (td σ H1 fun dv H2 => rMinD K x dv H2 Q) → tMinD_r K td σ Q vs H1
noncomputable def tMinD (K : PySem.W.Frag) (t : TA) (td : TE) : TE := fun σ H Q => t σ H fun vs H1 => tMinD_r K td σ Q vs H1
theorem pe_minD {e de : Expr} {t : TA} {td : TE} {pos np kpos : Pos} (hc : X.calm = true) (hu : X.A.units + 1 < cLine) (hg : Gl X "min") (hm : X.mg "min" = none) (he : PA X [e] t) (hd : PE X de td)
    (hs1 : backTo pos (starEach [e] X.env) = (false, eval e X.env) :: backTo pos (starEach [] X.env) := by rfl) (hs2 : (backTo pos (starEach [e] X.env)).any (·.1) = false := by rfl) :
    PE X (.Call (.Name "min" np) [e] [⟨some "default", de, kpos⟩] pos) (tMinD X.K t td) := by
  intro pins s σ H Q I h
  refine wpAny_Call_Name_kw (ld_blt I hg hm (by decide +kernel : bootBuiltins "min" = some (.builtin "min")) ?_)
  refine PyProof.Rows.callWith_kw (thnA (he pos pins s σ H _ I h) fun us s1 vs H1 I1 r q1 => ?_) hs1 hs2
  obtain ⟨x, rfl, q1⟩ := q1
  obtain ⟨u, rfl, rx⟩ := vals1 r
  show wpAny _ _ (evalAll ((do let v ← eval de X.env; standAt pos; pure v) :: [])) _ _ s1
  refine wpAny_evalAll_cons (wpAny_bind (thnE (hd pins s1 σ H1 _ I1 q1) fun ud s2 dv H2 I2 rd q2 => wpAny_bind (wpAny_standAt (wpAny_pure (wpAny_evalAll_nil ?_)))))
  show wpAny _ _ (call (.builtin "min") [u] [(Str.ofString "default", ud)]) _ _ s2
  obtain ⟨p, ys, rfl, hp, q0, hk⟩ := q2
  cases rx
  obtain ⟨its, rv, hpp⟩ : ∃ its : List Value, Vals ys its ∧ (s2.heap.IsList p its.toArray ∨ s2.heap.IsTuple p its.toArray) := by
    rcases hp with hp | hp
    · obtain ⟨its, r', pl, -⟩ := I2.list hp
      exact ⟨its, r', .inl pl.isList⟩
    · obtain ⟨its, r', pl, -⟩ := I2.tuple hp
      exact ⟨its, r', .inr pl⟩
  have hlen := rv.length
  have e0 : its = [] → ys = [] := fun z => List.length_eq_zero_iff.mp (by rw [hlen, z]; rfl)
  rcases hk with ⟨ks, T, q⟩ | ⟨ns, rfl, q⟩
  · have hl := T.length
    refine call_minD (I2.ok.hd hc) (fun i j => lexO.blt (ks.getD i []) (ks.getD j [])) hpp (fun i j vi vj h tk Q E K hi hj q => ?_) (fun v h tk hv K => ?_) (fun z h tk K => ⟨dv, H2, I2.kept K, rd, q0 (e0 z)⟩)
    · have look : ∀ (i : Nat) (v : Value), its[i]? = some v → ∃ (p : Addr) (k : List Int) (us : List Value), v = .ref p ∧ ks[i]? = some k ∧ IntsAre us k ∧ IsTup h p us.toArray := fun i v hv => by
        have hi : i < ys.length := by have := (List.getElem?_eq_some_iff.mp hv).1; (first | lia | omega)
        obtain ⟨p, k, e1, e2, e3, -⟩ := T.get (i := i) (x := ys[i]) (by simp [hi])
        obtain ⟨u, hu, ru⟩ := rv.get (i := i) (x := ys[i]) (by simp [hi])
        rw [hv] at hu; cases hu
        rw [e1] at ru
        cases (show v = Value.ref p from ru)
        obtain ⟨_, us, rv', o, ho, hc⟩ := I2.hok p _ e3
        exact ⟨p, k, us, rfl, e2, intsAre_of rv', o, K _ _ ho, hc⟩
      obtain ⟨p1, k1, us1, rfl, g1, i1, t1⟩ := look i vi hi
      obtain ⟨p2, k2, us2, rfl, g2, i2, t2⟩ := look j vj hj
      refine HT.lt_tupInts (ns := k1) (ms := k2) t1 t2 i1 i2 hu ?_
      have : lexO.blt (ks.getD i []) (ks.getD j []) = HT.lexLt k1 k2 := by rw [List.getD_eq_getElem?_getD, List.getD_eq_getElem?_getD, g1, g2]; rfl
      rw [← this]; exact q
    · obtain ⟨b1, b2⟩ := argBest_ord (O := lexO) (fun i => ks.getD i []) (its.length - 1)
      have hlt := (List.getElem?_eq_some_iff.mp hv).1
      generalize eb : argBest (fun i j => lexO.blt (ks.getD i []) (ks.getD j [])) (its.length - 1) = bi at hv hlt b1 b2
      have hy : bi < ys.length := by first | lia | omega
      obtain ⟨u, hu, ru⟩ := rv.get (i := bi) (x := ys[bi]) (by simp [hy])
      rw [hv] at hu; cases hu
      obtain ⟨pa, k, e1, e2, e3, -⟩ := T.get (i := bi) (x := ys[bi]) (by simp [hy])
      refine ⟨ys[bi], H2, I2.kept K, ru, q bi ys[bi] k (by simp [hy]) e2 fun k' hk' => ?_⟩
      obtain ⟨j, hj, ej⟩ := List.getElem_of_mem hk'
      have := b2 j om
      have g1 : ks.getD j [] = k' := by rw [List.getD_eq_getElem?_getD, List.getElem?_eq_getElem hj, ej]; rfl
      have g2 : ks.getD bi [] = k := by rw [List.getD_eq_getElem?_getD, e2]; rfl
      rw [g1, g2] at this
      exact this
  · have hI : IntsAre its ns := intsAre_of rv
    have hl := hI.length
    have look : ∀ (i : Nat) (v : Value), its[i]? = some v → ∃ t, v = .int (ns.getD i 0) t := fun i v hv => by
      have hi : i < ns.length := by have := (List.getElem?_eq_some_iff.mp hv).1; (first | lia | omega)
      obtain ⟨u, hu, ru⟩ := rv.get (i := i) (x := .int ns[i]) (by simp [hi])
      rw [hv] at hu; cases hu
      obtain ⟨t, rfl⟩ := (show ∃ t, v = Value.int ns[i] t from ru)
      exact ⟨t, by rw [List.getD_eq_getElem?_getD, List.getElem?_eq_getElem hi]; rfl⟩
    refine call_minD (I2.ok.hd hc) (fun i j => decide (ns.getD i 0 < ns.getD j 0)) hpp (fun i j vi vj h tk Q E K hi hj q => ?_) (fun v h tk hv K => ?_) (fun z h tk K => ⟨dv, H2, I2.kept K, rd, q0 (e0 z)⟩)
    · obtain ⟨t1, rfl⟩ := look i vi hi
      obtain ⟨t2, rfl⟩ := look j vj hj
      exact PyProof.Rows.lt_int q
    · obtain ⟨b1, b2⟩ := argBest_lt (fun i => ns.getD i 0) (its.length - 1)
      have hlt := (List.getElem?_eq_some_iff.mp hv).1
      generalize eb : argBest (fun i j => decide (ns.getD i 0 < ns.getD j 0)) (its.length - 1) = bi at hv hlt b1 b2
      obtain ⟨t, rfl⟩ := look bi v hv
      have hy : bi < ns.length := by first | lia | omega
      refine ⟨.int (ns.getD bi 0), H2, I2.kept K, ⟨t, rfl⟩, q _ ?_ fun m hm => ?_⟩
      · rw [List.getD_eq_getElem?_getD, List.getElem?_eq_getElem hy]; exact List.getElem_mem hy
      · obtain ⟨j, hj, ej⟩ := List.getElem_of_mem hm
        have := b2 j om
        have g1 : ns.getD j 0 = m := by rw [List.getD_eq_getElem?_getD, List.getElem?_eq_getElem hj, ej]; rfl
        rw [g1] at this
        exact this
end
end L2
namespace L2
open PySem PyProof.Rows
theorem no_keys {prog : Program} {w : World} {A : Around} {s : Shared} {l : Addr} {its : Array Value} {Q : Option Value → Shared → Prop} {E : Value → Shared → Prop} (hA : A.handled = none) (hl : PlainL s.heap l its)
    (q : ∀ h' tk, Kp s h' → Q none { s with heap := h', toks := tk }) : wpAny (model prog w) A (getAttr? (.ref l) (Str.ofString "keys")) Q E s := by
  have ty : ∀ tk, Shared.TypeIs { s with toks := tk } (.ref l) "list" := fun tk => by
    obtain ⟨o, ho, hc, -⟩ := hl.isList
    exact ⟨o, ho, hc⟩
  unfold getAttr?
  refine wpAny_bind (wpAny_bind (wpAny_fresh (wpAny_pure ?_)))
  unfold getAttrBy?
  refine wpAny_bind (wpAny_attempt ?_)
  unfold getAttrBy
  refine wpAny_holding (wpAny_bind (wpAny_typeOf (ty _) (wpAny_bind (wpAny_of_eq (show typeLookup (.type "list") (Str.ofString "__getattribute__") = pure (some (.builtin "list.__getattribute__")) from rfl) (wpAny_pure ?_)))))
  show wpAny _ _ (getAttrByItsOwn _ _ _ _ _ _) _ _ _
  unfold getAttrByItsOwn
  refine wpAny_bind (wpAny_of_eq (show hookBefore (.type "list") = pure none from rfl) (wpAny_pure (wpAny_bind (wpAny_attempt (wpAny_holding ?_)))))
  show wpAny _ _ (boundAndCalled _ _ _) _ _ _
  unfold boundAndCalled
  refine wpAny_bind (wpAny_of_eq (show bindSpecial (.builtin "list.__getattribute__") (.ref l) = pure (.builtin "list.__getattribute__", [.ref l]) from rfl) (wpAny_pure ?_))
  refine wpAny_call (codeAny_call_builtin (by decide +kernel) PySem.am_entry_list_getattribute ?_)
  refine wpAny_bind (wpAny_isInstance (ty _) (b := true) rfl ?_)
  refine wpAny_of_eq (m' := pure ()) rfl (wpAny_pure ?_)
  unfold Builtin.«object.__getattribute__»
  refine wpAny_bind (wpAny_of_eq (m' := pure (Value.ref l, [Value.str (Str.ofString "keys") s.toks])) rfl (wpAny_pure ?_))
  refine wpAny_bind (wpAny_pure (wpAny_bind (wpAny_typeOf (ty _) (wpAny_bind ?_))))
  unfold Builtin.ObjectAttr.find
  refine wpAny_bind (wpAny_of_eq (m' := pure none) rfl (wpAny_pure (wpAny_bind (wpAny_pure (wpAny_bind (wpAny_pure ?_))))))
  obtain ⟨o, n, ho, hc, hd, hdat⟩ := id hl
  obtain ⟨cls, dict, data, slots⟩ := o
  obtain rfl : cls = _ := hc
  obtain rfl : dict = _ := hd
  obtain rfl : data = _ := hdat
  refine wpAny_bind (wpAny_bind (wpAny_bind (wpAny_loadPart ho (wpAny_bind (wpAny_loadPart ho (wpAny_pure (wpAny_pure ?_)))))))
  refine wpAny_bind (wpAny_of_eq (m' := pure ()) rfl (wpAny_pure (wpAny_bind (wpAny_rule (wpAny_pure ?_)))))
  show wpAny _ _ (Builtin.ObjectAttr.noSuchAttribute (Value.ref l) (Str.ofString "keys")) _ _ _
  unfold Builtin.ObjectAttr.noSuchAttribute
  refine wpAny_bind (wpAny_bind (wpAny_bind (wpAny_typeOf (ty _) (wpAny_of_eq (m' := pure (Value.type "list")) rfl (wpAny_pure (wpAny_of_eq (m' := pure "list") rfl (wpAny_pure ?_)))))))
  refine wpAny_raiseAttrError hA (fun h' tk e ne => ?_) (by decide +kernel)
  obtain ⟨t, u, he⟩ := ne.there
  have tye : ∀ tk, Shared.TypeIs { s with heap := h', toks := tk } (.ref e) "AttributeError" := fun tk => ⟨_, he, rfl⟩
  show wpAny _ _ (getattributeRaised _ _ _ _ _ _ _) _ _ _
  unfold getattributeRaised
  refine wpAny_bind (wpAny_isInstance (tye _) (b := true) rfl ?_)
  refine wpAny_bind (wpAny_of_eq (m' := pure none) rfl (wpAny_pure ?_))
  refine wpAny_bind (wpAny_throw ?_)
  refine wpAny_bind (wpAny_isInstance (tye _) (b := true) rfl (wpAny_pure ?_))
  exact q h' tk ne.keeps
theorem quiet_dul (a : Args) : (Code.builtin "dict.update.loop" a).quiet = true := plainId_quiet (id := "dict.update.loop") (by decide +kernel) a
theorem stored_len {κ : Type} [DecidableEq κ] (kvs : List (κ × Value)) (k : κ) (v : Value) : (stored kvs k v).length ≤ kvs.length + 1 := by
  unfold stored
  split
  · rw [List.length_map]; (first | lia | omega)
  · rw [List.length_append]; exact Nat.le_refl _
noncomputable def stAll (qs : List (Key × Value)) : List (Key × Value) := qs.foldl (fun a q => stored a q.1 q.2) []
theorem stAll_snoc (qs : List (Key × Value)) (q : Key × Value) : stAll (qs ++ [q]) = stored (stAll qs) q.1 q.2 := by unfold stAll; rw [List.foldl_append]; rfl
theorem stAll_len (qs : List (Key × Value)) : (stAll qs).length ≤ qs.length := by
  have : ∀ (qs : List (Key × Value)) (a : List (Key × Value)), (qs.foldl (fun a q => stored a q.1 q.2) a).length ≤ a.length + qs.length := by
    intro qs
    induction qs with
    | nil => intro a; exact Nat.le_refl _
    | cons q qs ih =>
      intro a
      have h1 := ih (stored a q.1 q.2)
      have h2 := stored_len a q.1 q.2
      rw [List.foldl_cons, List.length_cons]; (first | lia | omega)
  have := this qs []
  simpa [stAll] using this
section
variable {prog : Program} {w : World} {A : Around} {s0 : Shared} {D I l : Addr} {its : List Value} {qs : List (Key × Value)}
theorem dict_loop {R : Result → Shared → Prop} (hA : A.handled = none) (hD : s0.heap.objs.size ≤ D) (hI : s0.heap.objs.size ≤ I) (hDI : D ≠ I) (hl : s0.heap.IsList l its.toArray) (hz : its.length ≤ sizeLine) (hqs : qs.length = its.length)
    (look : ∀ (i : Nat) (v : Value), its[i]? = some v → ∃ (p : Addr) (kv u : Value) (k : Key), v = .ref p ∧ IsTup s0.heap p #[kv, u] ∧ (mixKind prog w).is k kv = true ∧ qs[i]? = some (k, u))
    (hR : ∀ (h : Heap) (tk : Nat), Kp s0 h → h.DictOf (mixKind prog w) D (stAll qs) → R (.ok (.ret .none)) { s0 with heap := h, toks := tk }) :
    ∀ (r j : Nat) (h : Heap) (tk : Nat), its.length - j = r → j ≤ its.length → Kp s0 h → h.IsListIter I l j → h.DictOf (mixKind prog w) D (stAll (qs.take j)) →
      codeAny (model prog w) A (.builtin "dict.update.loop" { pos := [.ref D, .ref I, rawInt j, .none] }) R { s0 with heap := h, toks := tk } := by
  have hl' : ∀ h, Kp s0 h → h.IsList l its.toArray := fun h K => by
    obtain ⟨o, ho, hc⟩ := hl
    exact ⟨o, K _ _ ho, hc⟩
  intro r
  induction r with
  | zero =>
    intro j h tk hr hj K hit hd
    refine codeAny_builtin (b := Builtin.«dict.update.loop») (by rfl) ?_
    unfold Builtin.«dict.update.loop»
    refine wpAny_bind (wpAny_pyNext_list_end hA hit (hl' h K) (by rw [List.getElem?_toArray]; exact List.getElem?_eq_none om) fun h' b => ?_)
    refine wpAny_bind (wpAny_of_eq (m' := pure ()) rfl (wpAny_pure (wpAny_pure ?_)))
    refine hR h' tk (K.but hI b) ?_
    obtain ⟨o, es, ep, ho, hrest⟩ := hd
    rw [List.take_of_length_le om] at hrest
    exact ⟨o, es, ep, b D o hDI ho, hrest⟩
  | succ r ih =>
    intro j h tk hr hj K hit hd
    obtain ⟨x, hx⟩ : ∃ x, its[j]? = some x := ⟨_, List.getElem?_eq_getElem om⟩
    obtain ⟨p, kv, u, k, rfl, tp, hk, hq⟩ := look j x hx
    refine codeAny_builtin (b := Builtin.«dict.update.loop») (by rfl) ?_
    unfold Builtin.«dict.update.loop»
    refine wpAny_bind (wpAny_pyNext_list_item hit (hl' h K) (by rw [List.getElem?_toArray]; exact hx) fun h' hit' b => ?_)
    have K' : Kp s0 h' := K.but hI fun c o hc e => by rw [b.2 c hc]; exact e
    obtain ⟨o, ho, hc, n, hdat⟩ := tp
    refine wpAny_bind (wpAny_holding (wpAny_bind (wpAny_tryCatch ?_)))
    unfold Builtin.Dict.pairItems
    refine wpAny_bind (wpAny_typeOf (T := "tuple") ⟨o, K' _ _ ho, hc⟩ ?_)
    refine wpAny_bind (wpAny_seqItems (K' _ _ ho) hdat (wpAny_pure ?_))
    have hd' : h'.DictOf (mixKind prog w) D (stAll (qs.take j)) := by
      obtain ⟨o, es, ep, ho, hrest⟩ := hd
      exact ⟨o, es, ep, by rw [b.2 D hDI]; exact ho, hrest⟩
    refine wpAny_holding (wpAny_dictSet_pairs hk hd' (fun h2 hd2 b2 => ?_) (Nat.le_trans (stAll_len _) (by rw [List.length_take]; (first | lia | omega))))
    refine wpAny_pure ⟨quiet_dul _, ?_⟩
    refine ih (j + 1) h2 (tk + 1) om om (fun c o e => ?_) ?_ ?_
    · rw [b2.2 c (Nat.ne_of_lt (Nat.lt_of_lt_of_le (Heap.lt_size e) hD))]; exact K' c o e
    · obtain ⟨o, ho, hc⟩ := hit'
      exact ⟨o, by rw [b2.2 I (Ne.symm hDI)]; exact ho, hc⟩
    · rw [List.take_add_one, hq]
      show h2.DictOf _ D (stAll (qs.take j ++ [(k, u)]))
      rw [stAll_snoc]
      exact hd2
end
theorem dict_empty {prog : Program} {w : World} (h : Heap) : (h.push { cls := .type "dict", data := .dict #[] }).DictOf (mixKind prog w) h.objs.size [] :=
  ⟨_, #[], 0, Heap.get?_push_size _ rfl, ⟨rfl, rfl, rfl⟩, rfl, by
    first | exact KeysOf.nil | (intro x hx; simp at hx) | trivial | decide, by
    first | exact .nil | trivial, List.nodup_nil⟩
theorem call_dictPairs {prog : Program} {w : World} {A : Around} {s : Shared} {l : Addr} {its : List Value} {qs : List (Key × Value)} {Q E : Value → Shared → Prop} (hA : A.handled = none) (hl : PlainL s.heap l its.toArray) (hz : its.length ≤ sizeLine) (hqs : qs.length = its.length)
    (look : ∀ (i : Nat) (v : Value), its[i]? = some v → ∃ (p : Addr) (kv u : Value) (k : Key), v = .ref p ∧ IsTup s.heap p #[kv, u] ∧ (mixKind prog w).is k kv = true ∧ qs[i]? = some (k, u))
    (q : ∀ (D : Addr) (h : Heap) (tk : Nat), s.heap.objs.size ≤ D → Kp s h → h.DictOf (mixKind prog w) D (stAll qs) → Q (.ref D) { s with heap := h, toks := tk }) :
    wpAny (model prog w) A (call (.type "dict") [.ref l]) Q E s := by
  refine callType_codes (Q₁ := fun obj s₁ => obj = .ref s.heap.objs.size ∧ s₁ = { s with heap := s.heap.push { cls := .type "dict", data := .dict #[] } }) PySem.F.kt_called_dict (PySem.F.kt_typeCall_dict_1 _) PySem.F.entry_dict_init ?_ (fun obj s₁ e => ?_)
  · refine codeAny_call_builtin (by decide +kernel) PySem.F.kt_entry_dict_new (wpAny_of_eq (PySem.F.kt_newCall_dict_1 _) (wpAny_pure ?_))
    unfold Builtin.«dict.__new__»
    refine wpAny_bind (wpAny_of_eq (m' := pure true) rfl (wpAny_pure (wpAny_bind (wpAny_of_eq (m' := pure true) rfl (wpAny_pure (wpAny_bind (wpAny_of_eq (m' := pure [Value.type "dict", Value.type "object"]) rfl (wpAny_pure ?_))))))))
    exact wpAny_bind (wpAny_newObjAsIs_type (wpAny_pure ⟨rfl, rfl⟩))
  · obtain ⟨rfl, rfl⟩ := e
    refine ⟨⟨_, Heap.get?_push_size _ rfl, rfl⟩, PySem.F.args_dict_init_2 _ _, ?_⟩
    unfold Builtin.«dict.__init__»
    have h0 : Kp s (s.heap.push { cls := .type "dict", data := .dict #[] }) := fun b o e => Heap.get?_push_of_some _ e
    have hl1 : ∀ h, Kp s h → PlainL h l its.toArray := fun h K => by
      obtain ⟨o, n, ho, hr⟩ := hl
      exact ⟨o, n, K _ _ ho, hr⟩
    refine wpAny_bind (wpAny_bind (wpAny_bind (wpAny_typeOf (T := "dict") ⟨_, Heap.get?_push_size _ rfl, rfl⟩ (wpAny_pure (wpAny_bind (wpAny_pure (wpAny_pure ?_)))))))
    show wpAny _ _ (Builtin.Dict.updateFrom "dict.__init__" s.heap.objs.size (.ref l) [] .none) _ _ _
    unfold Builtin.Dict.updateFrom
    refine wpAny_bind (wpAny_typeOf (T := "list") (let ⟨o, ho, hc, _⟩ := (hl1 _ h0).isList; ⟨o, ho, hc⟩) ?_)
    refine wpAny_bind (no_keys hA (hl1 _ h0) fun h1 tk1 K1 => ?_)
    have K1' : Kp s h1 := fun b o e => K1 b o (h0 b o e)
    refine wpAny_bind (wpAny_rule (wpAny_bind (wpAny_pyIter_list (hl1 _ K1').isList (wpAny_pure ⟨quiet_dul _, ?_⟩))))
    have hsz : s.heap.objs.size < h1.objs.size := Heap.lt_size (K1 _ _ (Heap.get?_push_size _ rfl))
    refine dict_loop (A := A.in1) (s0 := s) (l := l) (its := its) (qs := qs) hA (Nat.le_refl _) (Nat.le_of_lt hsz) (Nat.ne_of_lt hsz) hl.isList hz hqs look ?_ its.length 0 _ tk1 rfl (Nat.zero_le _) (fun b o e => Heap.get?_push_of_some _ (K1' b o e)) ?_ ?_
    · exact fun h tk K hd => ⟨rfl, q _ h tk (Nat.le_refl _) K hd⟩
    · exact ⟨_, Heap.get?_push_size _ rfl, rfl, rfl⟩
    obtain ⟨o, es, ep, ho, hr⟩ := dict_empty (prog := prog) (w := w) s.heap
    exact ⟨o, es, ep, Heap.get?_push_of_some _ (K1 _ _ ho), hr⟩
section
variable {X : Cx}
noncomputable def PairsAre (H : Hp) (ys : List V) (ps : List (Key × V)) : Prop := ps.length = ys.length ∧ ∀ (i : Nat) (y : V), ys[i]? = some y → ∃ (p : Addr) (k : Key) (v : V), y = .ref p ∧ H p = some (.tup [kV k, v]) ∧ ps[i]? = some (k, v)
noncomputable def putAll (ps : List (Key × V)) : List (Key × V) := ps.foldl (fun a p => putK a p.1 p.2) []
theorem putAll_kv : ∀ (ps : List (Key × V)) (qs : List (Key × Value)) (a : List (Key × V)) (b : List (Key × Value)), KV ps qs → KV a b → KV (ps.foldl (fun a p => putK a p.1 p.2) a) (qs.foldl (fun a q => stored a q.1 q.2) b)
  | [], [], _, _, _, h => h
  | p :: ps, q :: qs, a, b, h, h' => by
    cases h with
    | cons h1 h2 =>
      rw [List.foldl_cons, List.foldl_cons]
      refine putAll_kv ps qs _ _ h2 ?_
      rw [← h1.1]
      exact KV.put h' p.1 h1.2
  | [], _ :: _, _, _, h, _ => by cases h
  | _ :: _, [], _, _, h, _ => by cases h
theorem putAll_len (ps : List (Key × V)) : (putAll ps).length ≤ ps.length := by
  have : ∀ (ps : List (Key × V)) (a : List (Key × V)), (ps.foldl (fun a p => putK a p.1 p.2) a).length ≤ a.length + ps.length := by
    intro ps
    induction ps with
    | nil => intro a; exact Nat.le_refl _
    | cons q qs ih =>
      intro a
      have h1 := ih (putK a q.1 q.2)
      have h2 := length_putK a q.1 q.2
      rw [List.foldl_cons, List.length_cons]; (first | lia | omega)
  have := this ps []
  simpa [putAll] using this
inductive rc_8 (K : PySem.W.Frag) (xs : List V) (H : Hp) (Q : VK) : Prop
  | mk : ∀ l ys ps, (xs = [.ref l]) → (SqL K H l ys) → (PairsAre H ys ps) → (∀ d, H d = none → Q (.ref d) (upd H d (.dK (putAll ps)))) → rc_8 K xs H Q
theorem call_dictL (hc : X.calm = true) : CallR X (.type "dict") (rc_8 X.K) := by
  intro pins s σ H xs us Q I r h
  obtain ⟨l, ys, ps, rfl, hq, ⟨hpl, hps⟩, q⟩ := h
  obtain ⟨u, rfl, rx⟩ := vals1 r
  cases rx
  obtain ⟨its, rv, pl, hz⟩ := I.list hq
  have hlen := rv.length
  have both : ∀ (i : Nat), i < its.length → ∃ (p : Addr) (kv u : Value) (k : Key) (v : V), its[i]? = some (.ref p) ∧ IsTup s.heap p #[kv, u] ∧ (mixKind X.prog X.w).is k kv = true ∧ RelV v u ∧ ps[i]? = some (k, v) := fun i hi => by
    have hy : i < ys.length := by first | lia | omega
    obtain ⟨p, k, v, e1, e2, e3⟩ := hps i ys[i] (by simp [hy])
    obtain ⟨u, hu, ru⟩ := rv.get (i := i) (x := ys[i]) (by simp [hy])
    rw [e1] at ru
    cases (show u = Value.ref p from ru)
    obtain ⟨_, us, rv', tp⟩ := I.hok p _ e2
    obtain ⟨a, b, rfl, ra, rb⟩ := vals2 rv'
    exact ⟨p, a, b, k, v, hu, tp, kV_is ra, rb, e3⟩
  obtain ⟨qs, hql, hqk⟩ : ∃ qs : List (Key × Value), qs.length = its.length ∧ ∀ (i : Nat), i < its.length → ∃ (p : Addr) (kv u : Value) (k : Key) (v : V), its[i]? = some (.ref p) ∧ IsTup s.heap p #[kv, u] ∧ (mixKind X.prog X.w).is k kv = true ∧ RelV v u ∧ ps[i]? = some (k, v) ∧ qs[i]? = some (k, u) := by
    have : ∀ m, m ≤ its.length → ∃ qs : List (Key × Value), qs.length = m ∧ ∀ (i : Nat), i < m → ∃ (p : Addr) (kv u : Value) (k : Key) (v : V), its[i]? = some (.ref p) ∧ IsTup s.heap p #[kv, u] ∧ (mixKind X.prog X.w).is k kv = true ∧ RelV v u ∧ ps[i]? = some (k, v) ∧ qs[i]? = some (k, u) := by
      intro m
      induction m with
      | zero => intro _; exact ⟨[], rfl, fun i hi => absurd hi (Nat.not_lt_zero _)⟩
      | succ m ih =>
        intro hm
        obtain ⟨qs, h1, h2⟩ := ih om
        obtain ⟨p, kv, u, k, v, g1, g2, g3, g4, g5⟩ := both m om
        refine ⟨qs ++ [(k, u)], by rw [List.length_append, h1]; rfl, fun i hi => ?_⟩
        by_cases c : i = m
        · subst c
          exact ⟨p, kv, u, k, v, g1, g2, g3, g4, g5, by rw [List.getElem?_append_right om, h1, Nat.sub_self]; rfl⟩
        · obtain ⟨p, kv, u, k, v, f1, f2, f3, f4, f5, f6⟩ := h2 i om
          exact ⟨p, kv, u, k, v, f1, f2, f3, f4, f5, by rw [List.getElem?_append_left om]; exact f6⟩
    exact this its.length (Nat.le_refl _)
  have kv : KV ps qs := by
    have : ∀ (ps : List (Key × V)) (qs : List (Key × Value)), ps.length = qs.length → (∀ i, i < ps.length → ∃ k v u, ps[i]? = some (k, v) ∧ qs[i]? = some (k, u) ∧ RelV v u) → KV ps qs := by
      intro ps
      induction ps with
      | nil => intro qs e _; cases qs with
        | nil => exact .nil
        | cons _ _ => simp at e
      | cons p ps ih =>
        intro qs e h
        cases qs with
        | nil => simp at e
        | cons q qs =>
          obtain ⟨k, v, u, h1, h2, h3⟩ := h 0 (by simp)
          simp at h1 h2
          subst h1 h2
          refine .cons ⟨rfl, h3⟩ (ih qs (by simpa using e) fun i hi => ?_)
          obtain ⟨k, v, u, h1, h2, h3⟩ := h (i + 1) (by simp; (first | lia | omega))
          exact ⟨k, v, u, by simpa using h1, by simpa using h2, h3⟩
    refine this ps qs om fun i hi => ?_
    obtain ⟨p, kv, u, k, v, _, _, _, f4, f5, f6⟩ := hqk i om
    exact ⟨k, v, u, f5, f6, f4⟩
  refine call_dictPairs (its := its) (qs := qs) (I.ok.hd hc) pl om hql (fun i v hv => ?_) (fun D h tk hD K dd => ?_)
  · obtain ⟨p, kv, u, k, v', f1, f2, f3, f4, f5, f6⟩ := hqk i (List.getElem?_eq_some_iff.mp hv).1
    rw [hv] at f1; cases f1
    exact ⟨p, kv, u, k, rfl, f2, f3, f6⟩
  · have hfr : H D = none := I.hok.fresh hD
    have zz : (putAll ps).length ≤ sizeLine := Nat.le_trans (putAll_len ps) om
    refine ⟨.ref D, _, I.laid (a := D) (o := .dK (putAll ps)) (t' := tk) K hD (dk_new zz (beq_eq_false_iff_ne.mpr (Ne.symm (Nat.ne_of_lt (Nat.lt_of_lt_of_le I.big hD)))) (putAll_kv ps qs [] [] kv .nil) dd), rfl, q D hfr⟩
end
end L2
namespace L2
open PySem PySem.Spec PyProof.Rows
section
variable {X : Cx}
theorem pe_tyN {x : Str} {T : String} {pos : Pos} (hg : Gl X x) (hm : X.mg x = none) (hv : bootBuiltins x = some (.type T)) (hn : x ≠ "__name__" := by decide) (hdb : (x == ("__debug__" : Str)) = false := by decide) : PE X (.Name x pos) (tC (.ty T)) :=
  fun pins s σ H Q I h => ld_blt I hg hm hv ⟨.ty T, H, I, rfl, h⟩ hn hdb
inductive rc_9 (K : PySem.W.Frag) (xs : List V) (H : Hp) (Q : VK) : Prop
  | mk : ∀ x T t b, (xs = [x, .ty T]) → (TyOf K H x t) → (PySem.W.kitOne K t (.type T) = some b) → (Q (.bl b) H) → rc_9 K xs H Q
theorem call_isinst : CallR X (.builtin "isinstance") (rc_9 X.K) := by
  intro pins s σ H xs us Q I r h
  obtain ⟨x, T, t, b, rfl, ty, e, q⟩ := h
  obtain ⟨u, w', rfl, rx, rT⟩ := vals2 r
  cases (show w' = Value.type T from rT)
  exact isinst_ok I rx ty e fun tk => ⟨.bl b, H, I.tok tk, rfl, q⟩
theorem ps_no {st : Stmt} : PS X st (fun _ _ _ => False) := fun _ _ _ _ _ _ h => h.elim
end
section
variable {prog : Program} {w : World} {A : Around} {s0 : Shared} {I l : Addr} {bs : List Bool}
theorem all_loop {R : Result → Shared → Prop} (hA : A.handled = none) (hI : s0.heap.objs.size ≤ I) (hl : s0.heap.IsList l (bs.map Value.bool).toArray)
    (hR : ∀ (h : Heap) (tk : Nat), Kp s0 h → R (.ok (.ret (.bool (bs.all id)))) { s0 with heap := h, toks := tk }) :
    ∀ (r j : Nat) (h : Heap) (tk : Nat), bs.length - j = r → j ≤ bs.length → Kp s0 h → h.IsListIter I l j → (bs.take j).all id = true →
      codeAny (model prog w) A (.builtin "all.loop" { pos := [.ref I] }) R { s0 with heap := h, toks := tk } := by
  have hl' : ∀ h, Kp s0 h → h.IsList l (bs.map Value.bool).toArray := fun h K => by
    obtain ⟨o, ho, hc⟩ := hl
    exact ⟨o, K _ _ ho, hc⟩
  intro r
  induction r with
  | zero =>
    intro j h tk hr hj K hit ha
    refine codeAny_builtin PySem.F.entry_all_loop ?_
    unfold Builtin.«all.loop»
    refine wpAny_bind (wpAny_pyNext_list_end hA hit (hl' h K) (by rw [List.getElem?_toArray]; exact List.getElem?_eq_none (by rw [List.length_map]; (first | lia | omega))) fun h' b => ?_)
    refine wpAny_bind (wpAny_rule (wpAny_pure ?_))
    rw [List.take_of_length_le om] at ha
    have := hR h' tk (K.but hI b)
    rw [ha] at this
    exact this
  | succ r ih =>
    intro j h tk hr hj K hit ha
    obtain ⟨x, hx⟩ : ∃ x, bs[j]? = some x := ⟨_, List.getElem?_eq_getElem om⟩
    refine codeAny_builtin PySem.F.entry_all_loop ?_
    unfold Builtin.«all.loop»
    refine wpAny_bind (wpAny_pyNext_list_item hit (hl' h K) (x := .bool x) (by rw [List.getElem?_toArray, List.getElem?_map, hx]; rfl) fun h' hit' b => ?_)
    have K' : Kp s0 h' := K.but hI fun c o hc e => by rw [b.2 c hc]; exact e
    refine wpAny_bind (wpAny_holding (wpAny_truthy_bool (wpAny_bind (wpAny_letGo ?_))))
    cases x with
    | true =>
      refine wpAny_pure ⟨rfl, ?_⟩
      exact ih (j + 1) h' tk om om K' hit' (by rw [List.take_add_one, hx, List.all_append, ha]; rfl)
    | false =>
      refine wpAny_bind (wpAny_rule (wpAny_pure ?_))
      have e : bs.all id = false := by
        cases z : bs.all id with
        | false => rfl
        | true => have := List.all_eq_true.mp z false (List.mem_of_getElem? hx); simp at this
      have := hR h' tk K'
      rw [e] at this
      exact this
end
section
variable {X : Cx}
theorem bools_of : ∀ {bs : List Bool} {its : List Value}, Vals (bs.map V.bl) its → its = bs.map Value.bool
  | [], [], _ => rfl
  | b :: bs, u :: its, h => by
    cases h with
    | cons h1 h2 => rw [List.map_cons, ← bools_of h2, show u = Value.bool b from h1]
  | [], _ :: _, h => by cases h
  | _ :: _, [], h => by cases h
inductive rc_10 (K : PySem.W.Frag) (xs : List V) (H : Hp) (Q : VK) : Prop
  | mk : ∀ (p : Addr) (bs : List Bool), (xs = [.ref p]) → (SqL K H p (bs.map V.bl)) → (Q (.bl (bs.all id)) H) → rc_10 K xs H Q
theorem call_all (hc : X.calm = true) : CallR X (.builtin "all") (rc_10 X.K) := by
  intro pins s σ H xs us Q I r h
  obtain ⟨p, bs, rfl, hq, q⟩ := h
  obtain ⟨u, rfl, rx⟩ := vals1 r
  cases rx
  obtain ⟨its, r', pl, hz⟩ := I.list hq
  rw [bools_of r'] at pl
  refine wpAny_call (codeAny_call_builtin PySem.F.plain_all PySem.F.entry_all (wpAny_of_eq (m' := pure ()) rfl (wpAny_pure ?_)))
  unfold Builtin.all
  refine wpAny_bind (wpAny_of_eq (m' := pure (Value.ref p)) rfl (wpAny_pure (wpAny_bind (wpAny_pyIter_list pl.isList (wpAny_pure ⟨rfl, ?_⟩)))))
  refine all_loop (s0 := s) (l := p) (bs := bs) (I.ok.hd hc) (Nat.le_refl _) pl.isList ?_ bs.length 0 _ s.toks rfl (Nat.zero_le _) (fun b o e => Heap.get?_push_of_some _ e) ?_ rfl
  · exact fun h tk K => ⟨.bl _, H, I.kept K, rfl, q⟩
  · exact ⟨_, Heap.get?_push_size _ rfl, rfl, rfl⟩
end
theorem set_new {prog : Program} {w : World} {h : Heap} (led : Bool) : (h.push { cls := .type "set", data := .set #[] 0 (SetTable.fresh 0 0 led) }).SetOf (intKind prog w) h.objs.size (fun _ => false) 0 := by
  refine ⟨_, #[], 0, _, Heap.get?_push_size _ rfl, ⟨rfl, rfl, rfl⟩, rfl, ?_, fun k => ⟨fun z => by simp at z, fun ⟨e, he, _⟩ => by simp at he⟩, by decide, ?_, rfl⟩
  · first | exact ElemsOf.nil | trivial | (intro e he; simp at he)
  · cases led <;> first | rfl | decide +kernel
end L2
namespace L2
open PySem PySem.Spec PyProof.Rows
theorem call_setTup {prog : Program} {w : World} {A : Around} {s : Shared} {l : Addr} {its : List Value} {ns : List Int} {Q E : Value → Shared → Prop} (hA : A.handled = none) (hl : s.heap.IsTuple l its.toArray) (hi : IntsAre its ns) (hz : its.length + 1 < scanBound)
    (q : ∀ (h : Heap) (tk : Nat), Kp s h → h.SetOf (intKind prog w) s.heap.objs.size (fun k' => (firstMet (fun i => ns.getD i 0) its.length).any fun x => x == k') (firstMet (fun i => ns.getD i 0) its.length).length → Q (.ref s.heap.objs.size) { s with heap := h, toks := tk }) :
    wpAny (model prog w) A (call (.type "set") [.ref l]) Q E s := by
  refine wpAny_call (codeAny_of_tree (wpAny_pure ⟨Code.quiet_builtin _ (by decide +kernel), codeAny_builtin PySem.F.entry_type_call ?_⟩))
  unfold Builtin.«type.__call__»
  dsimp only
  rw [if_neg (by rw [PySem.F.called_set.notType]; decide)]
  rw [if_neg (by rw [PySem.F.called_set.canCreate]; decide)]
  obtain ⟨c, tl, hm⟩ := PySem.F.called_set.mro
  refine wpAny_bind (wpAny_of_eq (PySem.F.typeCall_set_1 _) (wpAny_pure (wpAny_bind (wpAny_of_eq hm (wpAny_pure ?_)))))
  refine wpAny_bind (wpAny_of_eq PySem.F.called_set.made (wpAny_pure (wpAny_bind (wpAny_pure ?_))))
  refine wpAny_bind (wpAny_holding (wpAny_call (codeAny_mono (code_set_new_1 (E := E) (.ref l) (Q₁ := fun obj s₁ => obj = .ref s.heap.objs.size ∧ ∃ led, s₁ = { s with heap := s.heap.push { cls := .type "set", data := .set #[] 0 (SetTable.fresh 0 0 led) } }) fun led => ⟨rfl, led, rfl⟩) fun r s₁ e => ?_)))
  match r, e with
  | .ok (.ret obj), e =>
    obtain ⟨rfl, led, rfl⟩ := e
    have h0 : Kp s (s.heap.push { cls := .type "set", data := .set #[] 0 (SetTable.fresh 0 0 led) }) := fun b o e => Heap.get?_push_of_some _ e
    have ht : ∀ h, Kp s h → h.IsTuple l its.toArray := fun h K => by
      obtain ⟨o, ho, hr⟩ := hl
      exact ⟨o, K _ _ ho, hr⟩
    have hlt : l < s.heap.objs.size := by
      obtain ⟨o, ho, -⟩ := hl
      exact Heap.lt_size ho
    have tyS : Shared.TypeIs { s with heap := s.heap.push { cls := .type "set", data := .set #[] 0 (SetTable.fresh 0 0 led) } } (.ref s.heap.objs.size) "set" := ⟨_, Heap.get?_push_size _ rfl, rfl⟩
    show wpAny _ _ _ _ _ _
    refine wpAny_bind (wpAny_isInstance tyS PySem.F.called_set.sub ?_)
    refine wpAny_bind (wpAny_holding ?_)
    unfold callSpecial?
    refine wpAny_bind (wpAny_specialOf tyS PySem.F.called_set.init.lookup (wpAny_holding (wpAny_bind (wpAny_of_eq (PySem.F.called_set.init.bind _) (wpAny_pure (wpAny_bind (wpAny_call (codeAny_call_builtin PySem.F.called_set.init.plain PySem.F.entry_set_init (check_set_init_1 tyS ?_)))))))))
    unfold Builtin.«set.__init__»
    refine wpAny_bind (wpAny_of_eq (m' := pure ()) rfl (wpAny_pure ?_))
    dsimp only
    refine wpAny_bind (wpAny_bind (wpAny_bind (wpAny_typeOf tyS (wpAny_of_eq (m' := pure (Value.type "set")) rfl (wpAny_pure (wpAny_of_eq (m' := pure "set") rfl (wpAny_pure ?_)))))))
    refine wpAny_bind (wpAny_of_eq (m' := pure ()) rfl (wpAny_pure (wpAny_bind (wpAny_pure ?_))))
    refine wpAny_bind (wpAny_bind (wpAny_bind (wpAny_load (Heap.get?_push_size _ rfl) ?_)))
    refine wpAny_of_eq (m' := pure (#[], 0, SetTable.fresh 0 0 led)) (by cases led <;> rfl) (wpAny_pure (wpAny_of_eq (m' := pure false) (by cases led <;> rfl) (wpAny_pure ?_)))
    have tyT : ∀ h tk, Kp s h → Shared.TypeIs { s with heap := h, toks := tk } (.ref l) "tuple" := fun h tk K => by
      obtain ⟨o, ho, hr⟩ := ht h K
      exact ⟨o, ho, hr.1⟩
    show wpAny _ _ (Builtin.Frozenset.updateFrom "set.__init__" s.heap.objs.size (.ref l) >>= _) _ _ _
    unfold Builtin.Frozenset.updateFrom
    refine wpAny_bind (wpAny_bind (wpAny_bind (wpAny_isInstance (tyT _ _ h0) PySem.F.sub_tuple_set (wpAny_isInstance (tyT _ _ h0) (b := false) rfl ?_))))
    refine wpAny_bind (wpAny_typeOf (tyT _ _ h0) ?_)
    refine wpAny_bind (wpAny_pyIter_tuple (ht _ h0) (wpAny_bind (wpAny_runValue ?_)))
    have hsz : (s.heap.push { cls := .type "set", data := .set #[] 0 (SetTable.fresh 0 0 led) }).objs.size = s.heap.objs.size + 1 := Heap.size_push ..
    refine codeAny_set_update_loopS (Walks.toS (Walks.tuple (A := (A.under (Code.builtin "type.__call__" { pos := [.type "set", .ref l] })).in1.in1) hA (s.heap.push { cls := .type "set", data := .set #[] 0 (SetTable.fresh 0 0 led) }).objs.size l (Nat.ne_of_lt (by rw [hsz]; exact Nat.lt_succ_of_lt hlt)) its.toArray)) s.heap.objs.size ?_ (fun i => ns.getD i 0) ?_ (by simpa using hz) its.toArray.size 0 _ rfl (Nat.zero_le _) ?_ ?_ ?_
    · rw [hsz]
      intro z
      rcases List.mem_cons.mp z with z | z
      · exact absurd z (Nat.ne_of_lt (Nat.lt_succ_self _))
      · exact absurd (List.mem_singleton.mp z) (Nat.ne_of_gt hlt)
    · intro i v hv
      rw [List.getElem?_toArray] at hv
      exact hi.int_at i v hv
    · exact ⟨⟨_, Heap.get?_push_size _ rfl, rfl, rfl⟩, ht _ fun b o e => Heap.get?_push_of_some _ (h0 b o e)⟩
    · have := set_new (prog := prog) (w := w) (h := s.heap) led
      obtain ⟨o, es, ep, t, ho, hr⟩ := this
      exact ⟨o, es, ep, t, Heap.get?_push_of_some _ ho, hr⟩
    · intro s' mv so
      refine wpAny_pure (wpAny_pure (wpAny_pure (wpAny_pure ?_)))
      obtain ⟨h', g', d', t', o'⟩ := s'
      obtain rfl : g' = s.gens := mv.gens
      obtain rfl : d' = s.drawn := mv.drawn
      obtain rfl : o' = s.os := mv.os
      refine q h' t' (fun b o e => mv.heap b o ?_ (Heap.get?_push_of_some _ (h0 b o e))) (by simpa using so)
      have hb : b < s.heap.objs.size := Heap.lt_size e
      intro z
      rw [hsz] at z
      rcases List.mem_cons.mp z with z | z
      · exact absurd z (Nat.ne_of_lt hb)
      · exact absurd (List.mem_singleton.mp z) (Nat.ne_of_lt (Nat.lt_succ_of_lt hb))
  | .ok .next, e => exact e.elim
  | .ok .brk, e => exact e.elim
  | .ok .cont, e => exact e.elim
  | .error v, e => exact e
end L2
namespace L2
open PySem PySem.Spec PyProof.Rows
theorem firstMet_nd {ns : List Int} (h : ns.Nodup) : ∀ k, k ≤ ns.length → firstMet (fun i => ns.getD i 0) k = ns.take k
  | 0, _ => rfl
  | k + 1, hk => by
    rw [firstMet_succ, firstMet_nd h k om]
    have hx : ns[k]? = some (ns.getD k 0) := by rw [List.getD_eq_getElem?_getD, List.getElem?_eq_getElem om]; rfl
    unfold step_dedup
    rw [if_neg, List.take_add_one, hx]
    · rfl
    · intro z
      obtain ⟨y, hy, e⟩ := List.any_eq_true.mp z
      have e' : y = ns.getD k 0 := by simpa using e
      obtain ⟨j, hj, ej⟩ := List.getElem_of_mem hy
      rw [List.length_take] at hj
      rw [List.getElem_take] at ej
      obtain ⟨hk', ek⟩ := List.getElem?_eq_some_iff.mp hx
      have := (List.nodup_iff_pairwise_ne.mp h)
      have := List.pairwise_iff_getElem.mp this j k om om om
      exact this (by rw [ej, ek, e'])
section
variable {X : Cx}
inductive rc_11 (K : PySem.W.Frag) (xs : List V) (H : Hp) (Q : VK) : Prop
  | mk : ∀ (p : Addr) (ns : List Int), (xs = [.ref p]) → (SqT K H p (ns.map V.int)) → (ns.length ≤ 1000) → (∀ d S, H d = none → Q (.ref d) (upd H d (.set S (firstMet (fun i => ns.getD i 0) ns.length).length))) → rc_11 K xs H Q
theorem call_setT (hc : X.calm = true) : CallR X (.type "set") (rc_11 X.K) := by
  intro pins s σ H xs us Q I r h
  obtain ⟨p, ns, rfl, hq, hl, q⟩ := h
  obtain ⟨u, rfl, rx⟩ := vals1 r
  cases rx
  obtain ⟨its, rv, pl, hz⟩ := I.tuple hq
  have hi := intsAre_of rv
  have hil := hi.length
  refine call_setTup (I.ok.hd hc) pl hi (by have : scanBound = 4096 := rfl; (first | lia | omega)) fun h tk K so => ?_
  rw [hil] at so
  exact ⟨.ref s.heap.objs.size, _, I.laid (a := s.heap.objs.size) (t' := tk) K (Nat.le_refl _) (show ObjOk X.prog X.w _ _ _ (.set _ _) from so), rfl, q _ _ I.fresh⟩
inductive rc_12 (xs : List V) (H : Hp) (Q : VK) : Prop
  | mk : ∀ (a : Addr) (S : Int → Bool) (n : Nat), (xs = [.ref a]) → (H a = some (.set S n)) → (Q (.int n) H) → rc_12 xs H Q
theorem call_lenS : CallR X (.builtin "len") rc_12 := by
  intro pins s σ H xs us Q I r h
  obtain ⟨a, S, n, rfl, ha, q⟩ := h
  obtain ⟨u, rfl, rx⟩ := vals1 r
  cases rx
  obtain ⟨o, es, ep, t, ho, ex, hd, _, _, hb, hf, hn⟩ := (show ObjOk X.prog X.w H s.heap a (.set S n) from I.hok a _ ha)
  refine call_len_set ho ex hd hf (by have : scanBound = 4096 := rfl; (first | lia | omega)) ⟨.int n, H, I.tok _, ⟨_, by rw [hn]⟩, q⟩
inductive tBMT_r (r : V → List V → Hp → VK → Prop) (t : TA) (σ : St) (Q : VK) (x : V) (H1 : Hp) : Prop
  | mk : ((∃ p ys, x = .ref p ∧ H1 p = some (.tup ys))) → (t σ H1 fun xs H2 => r x xs H2 Q) → tBMT_r r t σ Q x H1
noncomputable def tBMT (r : V → List V → Hp → VK → Prop) (to : TE) (t : TA) : TE := fun σ H Q => to σ H fun x H1 => tBMT_r r t σ Q x H1
variable {o e : Expr} {es : List Expr} {to : TE} {t : TA} {name : Str} {apos cpos : Pos} {id : String} {r : V → List V → Hp → VK → Prop}
theorem pe_bmT (slot : Slot "tuple" name id) (hty : typeOf (.builtin id) = pure (.type "method_descriptor")) (hm : MtR X id r) (ho : PE X o to) (ha : PA X (e :: es) t)
    (hbase : attributeBase o name X.env (eval o X.env) = eval o X.env := by rfl)
    (hfew : ((backTo cpos (starEach (e :: es) X.env)).all (fun x => !x.1) && (backToKw cpos (keywordEach [] X.env)).all (fun x => x.1.isSome)
      && decide ((e :: es).length + ([] : List Keyword).length + (if ([] : List Keyword).isEmpty then 0 else 1) < 30)) = true := by rfl)
    (hline : (apos.endLine == cpos.line) = true := by rfl) (hs : starEach (e :: es) X.env = (false, eval e X.env) :: starEach es X.env := by rfl) (hplain : (backTo cpos (starEach es X.env)).any (·.1) = false := by rfl) :
    PE X (.Call (.Attribute o name apos) (e :: es) [] cpos) (tBMT r to t) := by
  intro pins s σ H Q I h
  refine wpAny_Call_method_late hbase hfew hline rfl (thn (ho pins s σ H _ I h) ?_)
  rintro v s1 ⟨x, H1, I1, r1, ⟨p, ys, ex, hp⟩, q1⟩
  subst ex
  cases (show v = Value.ref p from r1)
  obtain ⟨⟨_, o2, ho2, hd2⟩, its, rv, ob, hob, hcl, -⟩ := (show ObjOk X.prog X.w H1 s1.heap p (.tup ys) from I1.hok p _ hp)
  refine ⟨"tuple", id, PySem.F.plainAttrs_tuple, slot, hty, ⟨ob, hob, hcl⟩, fun a ea => ?_, ?_⟩
  · cases ea
    exact ⟨o2, ho2, hd2⟩
  have hA := ha cpos pins s1 σ H1 _ I1 q1
  rw [hs] at hA ⊢
  refine Calls.callWith_builtin (by show (false || (backTo cpos (starEach es X.env)).any (·.1)) = false; rw [hplain] <;> rfl) (Calls.evalArgs_plain ?_)
  exact thn hA fun us s2 ⟨vs, H2, I2, r2, q2⟩ => hm pins s2 σ H2 (.ref p) vs (.ref p) us Q I2 rfl r2 q2
end
section
variable {prog : Program} {w : World} {A : Around} {E : Value → Shared → Prop}
theorem index_for {its : Array Value} {ns : List Int} {v : Int} {tv : Tok} {i : Nat} {R : Option PySem.Fin × Unit → Shared → Prop} (hi : IntsAre its.toList ns) (hv : ns[i]? = some v) (hno : ∀ j, j < i → ns[j]? ≠ some v)
    (f : Nat → Option PySem.Fin × Unit → Sem (ForInStep (Option PySem.Fin × Unit)))
    (hf : ∀ (j : Nat) (x : Option PySem.Fin × Unit), f j x = (match its[j]? with
      | some y => do
        let b ← eqBool y (.int v tv)
        if b = true then do
          let r ← retInt j
          pure (.done (some r, ()))
        else pure (.yield (none, ()))
      | _ => pure (.yield (none, ()))))
    (s : Shared) (hR : ∀ tk, R (some (.done (.ret (.int i s.toks))), ()) { s with toks := tk }) :
    ∀ (r j : Nat) (b : Option PySem.Fin × Unit), i - j = r → j ≤ i → wpAny (model prog w) A (forIn (List.range' j (its.size - j) 1) b f) R E s := by
  have hsz : its.size = ns.length := by have := hi.length; simpa using this
  have hil : i < ns.length := (List.getElem?_eq_some_iff.mp hv).1
  have look : ∀ j, j < ns.length → ∃ t, its[j]? = some (.int (ns.getD j 0) t) := fun j hj => by
    have hj' : j < its.size := by first | lia | omega
    obtain ⟨t, ht⟩ := hi.int_at j (its[j]'hj') (by rw [Array.getElem?_toList, Array.getElem?_eq_getElem hj'])
    exact ⟨t, by rw [Array.getElem?_eq_getElem hj', ht]⟩
  intro r
  induction r with
  | zero =>
    intro j b hr hj
    obtain rfl : j = i := by first | lia | omega
    rw [show its.size - j = (its.size - j - 1) + 1 by first | lia | omega, List.range'_succ, List.forIn_cons, hf]
    obtain ⟨t, ht⟩ := look j hil
    rw [ht]
    refine wpAny_bind (wpAny_bind (wpAny_eqBool_int ?_))
    have e : ns.getD j 0 = v := by rw [List.getD_eq_getElem?_getD, hv]; rfl
    rw [e, show (v == v) = true by simp]
    refine wpAny_bind (wpAny_bind (wpAny_mkInt (wpAny_pure (wpAny_pure (wpAny_pure ?_)))))
    exact hR _
  | succ r ih =>
    intro j b hr hj
    rw [show its.size - j = (its.size - (j + 1)) + 1 by first | lia | omega, List.range'_succ, List.forIn_cons, hf]
    obtain ⟨t, ht⟩ := look j om
    rw [ht]
    refine wpAny_bind (wpAny_bind (wpAny_eqBool_int ?_))
    have hj' : ns[j]? = some (ns.getD j 0) := by rw [List.getD_eq_getElem?_getD, List.getElem?_eq_getElem om]; rfl
    have e : ¬ ns.getD j 0 = v := fun z => hno j om (by rw [hj', z])
    rw [show (ns.getD j 0 == v) = false by simpa using e]
    refine wpAny_pure ?_
    exact ih (j + 1) _ om om
end
section
variable {X : Cx}
theorem mt_index : MtR X "tuple.index" (fun x xs H Q => ∃ (p : Addr) (ns : List Int) (i : Nat) (v : Int), x = .ref p ∧ xs = [.int v] ∧ SqT X.K H p (ns.map V.int) ∧ ns[i]? = some v ∧ (∀ j, j < i → ns[j]? ≠ some v) ∧ Q (.int i) H) := by
  intro pins s σ H x xs v us Q I rx r h
  obtain ⟨p, ns, i, k, rfl, rfl, hq, hi, hno, q⟩ := h
  cases (show v = Value.ref p from rx)
  obtain ⟨u, rfl, t, rfl⟩ := vals1 r
  obtain ⟨its, rv, ⟨ob, hob, hcl, n, hdat⟩, hz⟩ := I.tuple hq
  have hI := intsAre_of rv
  refine wpAny_call (codeAny_call_builtin PySem.F.slot_tuple_index.plain PySem.F.entry_tuple_index (PySem.F.slot_tuple_index.check _ _ _ _ _ _ _ _ ⟨ob, hob, hcl⟩ (PySem.F.args_tuple_index_2 _ _) ?_))
  unfold Builtin.«tuple.index»
  refine wpAny_bind (wpAny_of_eq (m' := pure (Value.ref p, [Value.int k t])) rfl (wpAny_pure ?_))
  refine wpAny_bind (wpAny_bind (wpAny_seqItems hob hdat (wpAny_pure ?_)))
  refine wpAny_bind (wpAny_pure (wpAny_bind (wpAny_pure (wpAny_bind ?_))))
  rw [Std.Legacy.Range.forIn_eq_forIn_range']
  have hsz : (Std.Legacy.Range.mk 0 (min its.toArray.size its.toArray.size) 1 (by decide)).size = its.toArray.size - 0 := by
    show (min its.toArray.size its.toArray.size - 0 + 1 - 1) / 1 = _
    rw [Nat.min_self]; (first | lia | omega)
  rw [hsz]
  refine index_for (its := its.toArray) (ns := ns) (v := k) (tv := t) (i := i) hI hi hno _ (fun j x => by rfl) s (fun tk => ?_) i 0 _ om (Nat.zero_le _)
  exact wpAny_pure ⟨.int i, H, I.tok _, ⟨_, rfl⟩, q⟩
end
section
variable {X : Cx} {pl : List (Addr × Obj)} {N' : List Str} {sc : Scope} {fp : List Addr} {s3 : Shared} {H3 : Hp}
theorem mt_indexC : MtR (cxComp X pl N' sc fp s3 H3) "tuple.index" (fun x xs H Q => ∃ (p : Addr) (ns : List Int) (i : Nat) (v : Int), x = .ref p ∧ xs = [.int v] ∧ SqT X.K H p (ns.map V.int) ∧ ns[i]? = some v ∧ (∀ j, j < i → ns[j]? ≠ some v) ∧ Q (.int i) H) := mt_index
end
end L2
namespace L2
open PySem PySem.Spec PyProof.Rows
section
variable {X : Cx}
end
end L2
namespace L2
open PySem PySem.Spec PyProof.Rows
section
variable {prog : Program} {w : World} {A : Around} {s : Shared} {l : Addr} {its : List Value} {ns : List Int} {v : Int} {tv : Tok}
theorem quiet_lcl (a : Args) : (Code.builtin "list.count.loop" a).quiet = true := Code.quiet_builtin a (by decide +kernel)
theorem count_loop {R : Result → Shared → Prop} (hl : s.heap.IsList l its.toArray) (hi : IntsAre its ns) (hR : ∀ (t : Tok) (tk : Nat), R (.ok (.ret (.int (ns.countP fun x => x == v : Nat) t))) { s with toks := tk }) :
    ∀ (r j : Nat), its.length - j = r → j ≤ its.length → codeAny (model prog w) A (.builtin "list.count.loop" { pos := [.ref l, .int v tv, rawInt j, rawInt ((ns.take j).countP fun x => x == v : Nat)] }) R s := by
  have hil := hi.length
  intro r
  induction r with
  | zero =>
    intro j hr hj
    refine codeAny_builtin (b := Builtin.«list.count.loop») (by rfl) ?_
    unfold Builtin.«list.count.loop»
    obtain ⟨o, ho, hc, n, hd⟩ := id hl
    refine wpAny_bind (wpAny_bind (wpAny_seqItems ho hd (wpAny_pure ?_)))
    have e : its.toArray[(j : Int).toNat]? = none := by rw [List.getElem?_toArray, Int.toNat_natCast]; exact List.getElem?_eq_none om
    rw [e]
    rw [List.take_of_length_le om]
    exact wpAny_bind (wpAny_mkInt (wpAny_pure (hR _ _)))
  | succ r ih =>
    intro j hr hj
    refine codeAny_builtin (b := Builtin.«list.count.loop») (by rfl) ?_
    unfold Builtin.«list.count.loop»
    obtain ⟨o, ho, hc, n, hd⟩ := id hl
    refine wpAny_bind (wpAny_bind (wpAny_seqItems ho hd (wpAny_pure ?_)))
    obtain ⟨x, hx⟩ : ∃ x, its[j]? = some x := ⟨_, List.getElem?_eq_getElem om⟩
    obtain ⟨t, rfl⟩ := hi.int_at j x hx
    have e : its.toArray[(j : Int).toNat]? = some (.int (ns.getD j 0) t) := by rw [List.getElem?_toArray, Int.toNat_natCast]; exact hx
    rw [e]
    refine wpAny_bind (wpAny_eqBool_int ?_)
    refine wpAny_pure ⟨quiet_lcl _, ?_⟩
    have hj' : ns[j]? = some (ns.getD j 0) := by rw [List.getD_eq_getElem?_getD, List.getElem?_eq_getElem om]; rfl
    have st : (ns.take (j + 1)).countP (fun x => x == v) = (ns.take j).countP (fun x => x == v) + (if (ns.getD j 0 == v) = true then 1 else 0) := by
      rw [List.take_add_one, hj', List.countP_append]
      show _ + List.countP _ [ns.getD j 0] = _
      rw [List.countP_cons, List.countP_nil, Nat.zero_add]
    have := ih (j + 1) om om
    rw [st] at this
    cases c : (ns.getD j 0 == v) with
    | true => rw [c] at this; exact this
    | false => rw [c] at this; exact this
end
section
variable {X : Cx}
theorem mt_count : MtR X "list.count" (fun x xs H Q => ∃ (p : Addr) (ns : List Int) (v : Int), x = .ref p ∧ xs = [.int v] ∧ SqL X.K H p (ns.map V.int) ∧ Q (.int (ns.countP fun x => x == v : Nat)) H) := by
  intro pins s σ H x xs u us Q I rx r h
  obtain ⟨p, ns, v, rfl, rfl, hq, q⟩ := h
  cases (show u = Value.ref p from rx)
  obtain ⟨w', rfl, t, rfl⟩ := vals1 r
  obtain ⟨its, rv, pl, hz⟩ := I.list hq
  have hi := intsAre_of rv
  refine wpAny_call (codeAny_call_builtin PySem.F.slot_list_count.plain PySem.F.entry_list_count (PySem.F.slot_list_count.check _ _ _ _ _ _ _ _ pl.isList.typeIs (PySem.F.args_list_count_2 _ _) ?_))
  unfold Builtin.«list.count»
  refine wpAny_bind (wpAny_of_eq (m' := pure (Value.ref p, Value.int v t)) rfl (wpAny_pure (wpAny_pure ⟨quiet_lcl _, ?_⟩)))
  refine count_loop (s := s) (ns := ns) pl.isList hi ?_ its.length 0 om (Nat.zero_le _)
  exact fun t' tk => ⟨.int _, H, I.tok _, ⟨t', rfl⟩, q⟩
end
end L2
namespace WM
open L2
structure En where
  h : Int
  l : Int
  u : Option Int
  d : Option Int
noncomputable def Cd (es fs : List En) (c : Int × Int) : Prop := ∃ e ∈ es, ∃ f ∈ fs, f.h = e.h ∧ c = (e.l + f.l, e.h)
noncomputable def LMin (P : Int × Int → Prop) : Option (Int × Int) → Prop
  | none => ∀ c, ¬ P c
  | some c => P c ∧ ∀ c', P c' → c.1 < c'.1 ∨ (c.1 = c'.1 ∧ c.2 ≤ c'.2)
theorem LMin.uniq {P : Int × Int → Prop} : ∀ {a b : Option (Int × Int)}, LMin P a → LMin P b → a = b
  | none, none, _, _ => rfl
  | none, some c, h, g => absurd g.1 (h c)
  | some c, none, h, g => absurd h.1 (g c)
  | some a, some b, h, g => by
    have h1 := h.2 b g.1
    have h2 := g.2 a h.1
    have e1 : a.1 = b.1 := by first | lia | omega
    have e2 : a.2 = b.2 := by first | lia | omega
    rw [show a = b from Prod.ext e1 e2]
noncomputable def Hub (es : List En) : Prop := es.Pairwise fun a b => a.h < b.h
noncomputable def entE (es : List En) (h : Int) : Option En := es.find? fun e => decide (e.h = h)
theorem entE_iff {es : List En} (hs : Hub es) {h : Int} {e : En} : entE es h = some e ↔ e ∈ es ∧ e.h = h := by
  unfold entE
  constructor
  · intro z
    exact ⟨List.mem_of_find?_eq_some z, of_decide_eq_true (List.find?_some (p := fun e : En => decide (e.h = h)) z)⟩
  · rintro ⟨hm, rfl⟩
    induction es with
    | nil => simp at hm
    | cons a es ih =>
      rw [List.find?_cons]
      rcases List.mem_cons.mp hm with rfl | hm'
      · simp
      · have hp := List.pairwise_cons.mp hs
        have := hp.1 e hm'
        rw [decide_eq_false (show ¬ a.h = e.h by first | lia | omega)]
        exact ih hp.2 hm'
theorem entE_none {es : List En} {h : Int} : entE es h = none ↔ ∀ e ∈ es, e.h ≠ h := by
  unfold entE
  rw [List.find?_eq_none]
  exact ⟨fun z e he => fun q => z e he (decide_eq_true q), fun z e he => fun q => z e he (of_decide_eq_true q)⟩
noncomputable def stepE (es fs : List En) (o p : Int) : Option (Int × Int) → Option Int
  | none => none
  | some c => if o = p then none else if c.2 = o then (entE fs c.2).bind (·.d) else (entE es c.2).bind (·.u)
noncomputable def cOf (fs : List En) (e : En) : Option (Int × Int) := (entE fs e.h).map fun f => (e.l + f.l, e.h)
theorem cOf_mem {es fs : List En} (hf : Hub fs) (c : Int × Int) : c ∈ es.filterMap (cOf fs) ↔ Cd es fs c := by
  rw [List.mem_filterMap]
  constructor
  · rintro ⟨e, he, z⟩
    unfold cOf at z
    cases q : entE fs e.h with
    | none => rw [q] at z; cases z
    | some f =>
      rw [q] at z
      obtain ⟨h1, h2⟩ := (entE_iff hf).mp q
      exact ⟨e, he, f, h1, h2, (Option.some.inj z).symm⟩
  · rintro ⟨e, he, f, hfm, h1, rfl⟩
    refine ⟨e, he, ?_⟩
    unfold cOf
    rw [(entE_iff hf).mpr ⟨hfm, h1⟩]
    rfl
theorem filt_step {α : Type} {l : List α} {i : Nat} {x : α} (p : α → Bool) (h : l[i]? = some x) : (l.take (i + 1)).filter p = (l.take i).filter p ++ (if p x = true then [x] else []) := by
  rw [List.take_add_one, h, List.filter_append]
  show _ ++ List.filter p [x] = _
  rw [List.filter_cons]
  rfl
theorem fm_step {α β : Type} {l : List α} {i : Nat} {x : α} (f : α → Option β) (h : l[i]? = some x) : (l.take (i + 1)).filterMap f = (l.take i).filterMap f ++ (f x).toList := by
  rw [List.take_add_one, h, List.filterMap_append]
  show _ ++ List.filterMap f [x] = _
  cases e : f x with
  | none => rw [List.filterMap_cons_none e]; rfl
  | some y => rw [List.filterMap_cons_some e]; rfl
end WM
namespace L2
open PySem PyProof.Rows
theorem putAll_id {ps : List (Key × V)} (h : (ps.map (·.1)).Nodup) : putAll ps = ps := by
  have : ∀ (ps a : List (Key × V)), ((a ++ ps).map (·.1)).Nodup → ps.foldl (fun a p => putK a p.1 p.2) a = a ++ ps := by
    intro ps
    induction ps with
    | nil => intro a _; rw [List.append_nil]; rfl
    | cons p ps ih =>
      intro a hn
      have e : putK a p.1 p.2 = a ++ [p] := by
        unfold putK
        rw [if_neg]
        intro z
        obtain ⟨q, hq, e⟩ := List.any_eq_true.mp z
        have e' := of_decide_eq_true e
        rw [List.map_append, List.map_cons] at hn
        have := (List.nodup_append.mp hn).2.2 q.1 (List.mem_map_of_mem hq) p.1 List.mem_cons_self
        exact this e'
      rw [List.foldl_cons, e, ih (a ++ [p]) (by rw [List.append_assoc]; exact hn), List.append_assoc]
      rfl
  exact this ps [] h
end L2
namespace WM
structure EG (ts : List T3) (n v : Int) (e : En) : Prop where
  rng : 0 ≤ e.h ∧ e.h < n
  len : IsD ts v e.h e.l
  up : e.h ≠ v → ∃ p, e.u = some p ∧ Nxt ts v e.h p
  dn : e.h ≠ v → ∃ p, e.d = some p ∧ Nxt ts e.h v p
structure LG (ts : List T3) (n v : Int) (es : List En) : Prop where
  hub : Hub es
  ent : ∀ e ∈ es, EG ts n v e
  own : ∃ e ∈ es, e.h = v
noncomputable def CovP (ts : List T3) (v w : Int) (es fs : List En) : Prop := ∀ d, IsD ts v w d → ∃ h, Btw ts v w h ∧ (∃ e ∈ es, e.h = h) ∧ ∃ f ∈ fs, f.h = h
theorem LG.zero {n : Int} {ts : List T3} (g : GW n ts) {v : Int} {es : List En} (L : LG ts n v es) : ∃ e r, es.filter (fun e => decide (e.l = 0)) = e :: r ∧ e.h = v := by
  obtain ⟨o, ho, hov⟩ := L.own
  have hl : o.l = 0 := by
    have := (L.ent o ho).len
    rw [hov] at this
    exact this.uniq (isD_self g v)
  have hm : o ∈ es.filter (fun e => decide (e.l = 0)) := List.mem_filter.mpr ⟨ho, decide_eq_true hl⟩
  cases e : es.filter (fun e => decide (e.l = 0)) with
  | nil => rw [e] at hm; simp at hm
  | cons a r =>
    have ha : a ∈ es.filter (fun e => decide (e.l = 0)) := by rw [e]; exact List.mem_cons_self
    obtain ⟨h1, h2⟩ := List.mem_filter.mp ha
    have := (isD_zero g (L.ent a h1).len).mp (of_decide_eq_true h2)
    exact ⟨a, r, rfl, this.symm⟩
theorem told_right {n : Int} {ts : List T3} (g : GW n ts) {v w : Int} {es fs : List En} (L1 : LG ts n v es) (L2 : LG ts n w fs) (C : CovP ts v w es fs) {lm : Option (Int × Int)} (h : LMin (Cd es fs) lm) :
    Len ts v w (lm.map (·.1)) ∧ ∀ c, lm = some c → Btw ts v w c.2 := by
  cases lm with
  | none =>
    refine ⟨fun d hd => ?_, fun c z => by cases z⟩
    obtain ⟨d', hd'⟩ := Way.least g hd
    obtain ⟨x, _, ⟨e, he, e1⟩, ⟨f, hf, f1⟩⟩ := C d' hd'
    exact h _ ⟨e, he, f, hf, by rw [f1, e1], rfl⟩
  | some c =>
    obtain ⟨⟨e, he, f, hf, hfe, rfl⟩, hmin⟩ := h
    have ie := (L1.ent e he).len
    have if' := (L2.ent f hf).len
    rw [hfe] at if'
    have wy : Way ts v w (e.l + f.l) := ie.1.trans if'.1.symm
    obtain ⟨d, hd⟩ := Way.least g wy
    obtain ⟨x, ⟨a, b, ia, ib, iab⟩, ⟨e', he', e1⟩, ⟨f', hf', f1⟩⟩ := C d hd
    have ed : a + b = d := iab.uniq hd
    have ea : e'.l = a := by have := (L1.ent e' he').len; rw [e1] at this; exact this.uniq ia
    have eb : f'.l = b := by have := (L2.ent f' hf').len; rw [f1] at this; exact this.uniq ib.symm
    have hm := hmin (e'.l + f'.l, e'.h) ⟨e', he', f', hf', by rw [f1, e1], rfl⟩
    have h1 := hd.2 _ wy
    have es : e.l + f.l = d := by
      rcases hm with z | z
      · have : e.l + f.l < e'.l + f'.l := z
        (first | lia | omega)
      · have : e.l + f.l = e'.l + f'.l := z.1
        (first | lia | omega)
    have id' : IsD ts v w (e.l + f.l) := by rw [es]; exact hd
    refine ⟨id', fun c z => ?_⟩
    cases z
    exact ⟨e.l, f.l, ie, if'.symm, id'⟩
theorem Nxt.on {ts : List T3} {v w h p : Int} (x : Nxt ts v h p) (y : Btw ts v w h) : Nxt ts v w p := by
  obtain ⟨l, b, ha, ib, ivh⟩ := x
  obtain ⟨a, c, ia, ic, iac⟩ := y
  have e : a = l + b := ia.uniq ivh
  refine ⟨l, b + c, ha, ⟨ib.1.trans ic.1, fun z hz => ?_⟩, by rw [← Int.add_assoc, ← e]; exact iac⟩
  have := iac.2 _ ((Way.one ha).trans hz)
  (first | lia | omega)
theorem step_right {n : Int} {ts : List T3} (g : GW n ts) {v w : Int} {es fs : List En} (L1 : LG ts n v es) (L2 : LG ts n w fs) (C : CovP ts v w es fs) {c : Int × Int} (h : LMin (Cd es fs) (some c)) (hne : v ≠ w) :
    ∃ p, stepE es fs v w (some c) = some p ∧ Nxt ts v w p := by
  have hb := (told_right g L1 L2 C h).2 c rfl
  obtain ⟨⟨e, he, f, hf, hfe, rfl⟩, -⟩ := h
  show ∃ p, (if v = w then none else if e.h = v then (entE fs e.h).bind (·.d) else (entE es e.h).bind (·.u)) = some p ∧ _
  rw [if_neg hne]
  by_cases q : e.h = v
  · rw [if_pos q, (entE_iff L2.hub).mpr ⟨hf, hfe⟩]
    obtain ⟨p, h1, h2⟩ := (L2.ent f hf).dn (by rw [hfe, q]; exact hne)
    rw [hfe, q] at h2
    exact ⟨p, h1, h2⟩
  · rw [if_neg q, (entE_iff L1.hub).mpr ⟨he, rfl⟩]
    obtain ⟨p, h1, h2⟩ := (L1.ent e he).up q
    exact ⟨p, h1, h2.on hb⟩
theorem min_rk {P : Int → Prop} (rk : Int → Int) : ∀ (m : Nat) (p : Int), P p → (rk p).toNat ≤ m → ∃ q, P q ∧ ∀ r, P r → (rk q).toNat ≤ (rk r).toNat
  | 0, p, hp, h => ⟨p, hp, fun r _ => by first | lia | omega⟩
  | m + 1, p, hp, h => by
    by_cases c : ∃ r, P r ∧ (rk r).toNat < (rk p).toNat
    · obtain ⟨r, hr, hlt⟩ := c
      exact min_rk rk m r hr om
    · exact ⟨p, hp, fun r hr => Nat.le_of_not_lt fun z => c ⟨r, hr, z⟩⟩
end WM
namespace L2
open PySem PySem.Spec PyProof.Rows
section
variable {X : Cx}
structure FnG (d : PyData) : Prop where
  ln : d.shown.length ≤ sizeLine
  hd : d.hasDict = false
  dp : d.depth ≤ 50
  sw : d.showable = true
inductive rc_13 (xs : List V) (H : Hp) (Q : VK) : Prop
  | mk : ∀ x d, (xs = [x]) → (Shows H x d) → (FnG d) → (Q (.str d.shown) H) → rc_13 xs H Q
theorem call_reprG {k : Nat} (hr : Room k X.A) : CallR X (.builtin "repr") rc_13 := by
  intro pins s σ H xs us Q I r h
  obtain ⟨x, d, rfl, sh, f, q⟩ := h
  obtain ⟨u, rfl, rx⟩ := vals1 r
  have hz := f.ln
  have hnd := f.hd
  have hu := hr.units
  cases sh with
  | non =>
    cases (show u = Value.none from rx)
    exact PySem.P.repr_of_none ⟨.str _, H, I.tok _, ⟨_, rfl⟩, by simpa only [PyData.shown] using q⟩
  | bl b =>
    cases (show u = Value.bool b from rx)
    exact PySem.P.repr_of_bool ⟨.str _, H, I.tok _, ⟨_, rfl⟩, by simpa only [PyData.shown] using q⟩
  | int i =>
    obtain ⟨t, rfl⟩ := rx
    exact PySem.P.repr_of_int (by have := f.sw; simpa only [PyData.showable, decide_eq_true_eq] using this) ⟨.str _, H, I.tok _, ⟨_, rfl⟩, by simpa only [PyData.shown] using q⟩
  | str z =>
    obtain ⟨t, rfl⟩ := rx
    exact PySem.P.repr_of_str ⟨.str _, H, I.tok _, ⟨_, rfl⟩, by simpa only [PyData.shown] using q⟩ (by simpa only [PyData.shown] using hz)
  | tup e al =>
    cases (show u = Value.ref _ from rx)
    obtain ⟨as, rd⟩ := Shows.reads I.hok (.tup e al) (u := .ref _) rfl
    exact repr_of_reads' rd f.sw (PyData.noDict_hsm hnd) hr.gd (by have := f.dp; (first | lia | omega)) (fun _ _ e => e) (fun h' u tk hk => ⟨.str _, H, I.kept hk, ⟨u, rfl⟩, q⟩) hz
  | lst e al =>
    cases (show u = Value.ref _ from rx)
    obtain ⟨as, rd⟩ := Shows.reads I.hok (.lst e al) (u := .ref _) rfl
    exact repr_of_reads' rd f.sw (PyData.noDict_hsm hnd) hr.gd (by have := f.dp; (first | lia | omega)) (fun _ _ e => e) (fun h' u tk hk => ⟨.str _, H, I.kept hk, ⟨u, rfl⟩, q⟩) hz
end
noncomputable def oDt : Option Int → PyData
  | none => .none
  | some d => .int d
theorem shows_oVt (H : Hp) (o : Option Int) : Shows H (oV o) (oDt o) := by
  cases o with
  | none => exact .non
  | some d => exact .int d
theorem int_txt {i : Int} (h : i.natAbs < 10 ^ 40) : (Str.ofString (toString i)).length ≤ 41 := by
  have e := int_text_length_le10 (a := i) (k := 40) (by decide) h
  have e2 : (Str.ofString (toString i)).length = (toString i).length := by
    rw [Str.ofString_eq_toList]
    show ((toString i).toList.map Char.toNat).toArray.size = _
    rw [List.size_toArray, List.length_map, String.length_toList]
  (first | lia | omega)
theorem leaf_oDt {o : Option Int} (h : ∀ d, o = some d → d.natAbs < 10 ^ 40) : PyData.leavesShort 50 (oDt o) = true ∧ (oDt o).weight ≤ 140 ∧ (oDt o).hasDict = false ∧ (oDt o).depth ≤ 0 ∧ (oDt o).showable = true := by
  cases o with
  | none => exact ⟨by decide +kernel, by decide +kernel, rfl, by decide +kernel, rfl⟩
  | some i =>
    have hi := h i rfl
    have hl : i.natAbs.log2 < 134 := by
      by_cases h0 : i.natAbs = 0
      · rw [h0]; decide
      · exact (Nat.log2_lt h0).mpr om
    have ht := int_txt hi
    refine ⟨?_, ?_, rfl, Nat.le_refl _, ?_⟩
    · simp only [oDt, PyData.leavesShort, PyData.shown]
      exact decide_eq_true om
    · simp only [oDt, PyData.weight]
      split <;> (first | lia | omega)
    · simp only [oDt, PyData.showable]
      exact decide_eq_true om
end L2
namespace K09
open PySem L2 WM
inductive C3 (p0 p1 p2 : Prop) : Prop
  | mk : p0 → p1 → p2 → C3 p0 p1 p2
inductive C4 (p0 p1 p2 p3 : Prop) : Prop
  | mk : p0 → p1 → p2 → p3 → C4 p0 p1 p2 p3
inductive C5 (p0 p1 p2 p3 p4 : Prop) : Prop
  | mk : p0 → p1 → p2 → p3 → p4 → C5 p0 p1 p2 p3 p4
inductive C6 (p0 p1 p2 p3 p4 p5 : Prop) : Prop
  | mk : p0 → p1 → p2 → p3 → p4 → p5 → C6 p0 p1 p2 p3 p4 p5
inductive C7 (p0 p1 p2 p3 p4 p5 p6 : Prop) : Prop
  | mk : p0 → p1 → p2 → p3 → p4 → p5 → p6 → C7 p0 p1 p2 p3 p4 p5 p6
inductive Ex2 {α0 α1 : Type} (p : α0 → α1 → Prop) : Prop
  | mk : ∀ a0 a1, p a0 a1 → Ex2 p
inductive Ex3 {α0 α1 α2 : Type} (p : α0 → α1 → α2 → Prop) : Prop
  | mk : ∀ a0 a1 a2, p a0 a1 a2 → Ex3 p
inductive Ex4 {α0 α1 α2 α3 : Type} (p : α0 → α1 → α2 → α3 → Prop) : Prop
  | mk : ∀ a0 a1 a2 a3, p a0 a1 a2 a3 → Ex4 p
inductive Ex5 {α0 α1 α2 α3 α4 : Type} (p : α0 → α1 → α2 → α3 → α4 → Prop) : Prop
  | mk : ∀ a0 a1 a2 a3 a4, p a0 a1 a2 a3 a4 → Ex5 p
inductive Ex6 {α0 α1 α2 α3 α4 α5 : Type} (p : α0 → α1 → α2 → α3 → α4 → α5 → Prop) : Prop
  | mk : ∀ a0 a1 a2 a3 a4 a5, p a0 a1 a2 a3 a4 a5 → Ex6 p
inductive Ex8 {α0 α1 α2 α3 α4 α5 α6 α7 : Type} (p : α0 → α1 → α2 → α3 → α4 → α5 → α6 → α7 → Prop) : Prop
  | mk : ∀ a0 a1 a2 a3 a4 a5 a6 a7, p a0 a1 a2 a3 a4 a5 a6 a7 → Ex8 p
noncomputable def top (i : Nat) : Stmt := PySem.Challenge.pw_labelways_k09_whole_labels_tell_lengths.main.body.getD i (.Pass ⟨0, 0, 0, 0⟩)
noncomputable abbrev sNum : Stmt := top 1
noncomputable abbrev sWi : Stmt := top 2
noncomputable abbrev sPl : Stmt := top 5
noncomputable abbrev sTof : Stmt := top 3
noncomputable abbrev sRis : Stmt := top 4
noncomputable abbrev sLab9 : Stmt := top 7
noncomputable abbrev sEnt9 : Stmt := top 8
noncomputable abbrev sLabs9 : Stmt := top 9
noncomputable abbrev sOwn : Stmt := top 10
noncomputable abbrev sTold : Stmt := top 11
noncomputable abbrev sHub : Stmt := top 12
noncomputable abbrev sSum : Stmt := top 13
noncomputable abbrev sEnt : Stmt := top 14
noncomputable abbrev sStep : Stmt := top 15
noncomputable abbrev sTies : Stmt := top 20
noncomputable abbrev sLens : Stmt := top 22
noncomputable abbrev sFrom : Stmt := top 23
noncomputable abbrev sNear : Stmt := top 24
noncomputable abbrev sBwr : Stmt := top 25
noncomputable abbrev sNbr : Stmt := top 26
noncomputable abbrev sOrd : Stmt := top 28
noncomputable abbrev sByo : Stmt := top 29
noncomputable abbrev sLbr : Stmt := top 30
noncomputable abbrev sIsh : Stmt := top 31
noncomputable abbrev sEbr : Stmt := top 32
noncomputable abbrev sTape : Stmt := top 34
noncomputable abbrev sDraw : Stmt := top 35
noncomputable abbrev sN : Stmt := top 36
noncomputable abbrev sWeb : Stmt := top 37
noncomputable abbrev sRow : Stmt := top 38
noncomputable abbrev sAdd : Stmt := top 39
noncomputable abbrev sLes : Stmt := top 40
noncomputable abbrev sFar : Stmt := top 41
noncomputable abbrev sOn : Stmt := top 42
noncomputable abbrev sJoi : Stmt := top 43
noncomputable abbrev sNxs : Stmt := top 44
noncomputable abbrev sOrder : Stmt := top 45
noncomputable abbrev sPr : Stmt := top 46
noncomputable abbrev sHr : Stmt := top 47
noncomputable abbrev sLaw : Stmt := top 48
inductive TapeP_r (H : Hp) (t : Addr) (p : Addr) (N : Nat) : Prop
  | mk : ∀ (ns : List Int) (spot rest : Int), (H t = some (.lst [.ref p, .int spot, .int rest])) → (H p = some (.lst (ns.map V.int))) → (p ≠ t ∧ 0 ≤ spot ∧ spot ≤ N ∧ 0 ≤ rest ∧ ns.length ≤ 63) → TapeP_r H t p N
noncomputable def TapeP (H : Hp) (t p : Addr) (N : Nat) : Prop := TapeP_r H t p N
inductive TapeAt_r (H : Hp) (t : Addr) (N : Nat) : Prop
  | mk : ∀ p : Addr, (TapeP H t p N) → TapeAt_r H t N
noncomputable def TapeAt (H : Hp) (t : Addr) (N : Nat) : Prop := TapeAt_r H t N
theorem TapeAt.mono {H : Hp} {t : Addr} {N M : Nat} (h : TapeAt H t N) (l : N ≤ M) : TapeAt H t M := by
  obtain ⟨p, ns, spot, rest, a, b, c, d, e, f⟩ := h
  exact ⟨p, ns, spot, rest, a, b, c, d, om, f⟩
noncomputable def Sm (t : Addr) (H H' : Hp) : Prop := ∀ b o, b ≠ t → H b = some o → H' b = some o
theorem Sm.trans {t : Addr} {H H1 H2 : Hp} (a : Sm t H H1) (b : Sm t H1 H2) : Sm t H H2 := fun c o n e => b c o n (a c o n e)
theorem Sm.of {t : Addr} {H H' : Hp} (h : Same H H') : Sm t H H' := fun b o _ e => h b o e
theorem Sm.laid {t l : Addr} {H : Hp} {o : HO} (h : H l = none) : Sm t H (upd H l o) := fun b u _ e => by rw [upd_ne (ne_of_none e h)]; exact e
theorem Sm.chg {t l : Addr} {H H' : Hp} {o : HO} (s : Sm t H H') (h : H l = none) : Sm t H (upd H' l o) := fun b u n e => by rw [upd_ne (ne_of_none e h)]; exact s b u n e
theorem same_laid {l : Addr} {H : Hp} {o : HO} (h : H l = none) : Same H (upd H l o) := fun b u e => by rw [upd_ne (ne_of_none e h)]; exact e
theorem same_chg {l : Addr} {H H' : Hp} {o : HO} (s : Same H H') (h : H l = none) : Same H (upd H' l o) := fun b u e => by rw [upd_ne (ne_of_none e h)]; exact s b u e
theorem TapeAt.keep {H H' : Hp} {t : Addr} {N : Nat} (h : TapeAt H t N) (k : Same H H') : TapeAt H' t N := by
  obtain ⟨p, ns, spot, rest, a, b, c⟩ := h
  exact ⟨p, ns, spot, rest, k _ _ a, k _ _ b, c⟩
theorem TapeAt.laid {H : Hp} {t l : Addr} {N : Nat} {o : HO} (h : TapeAt H t N) (hl : H l = none) : TapeAt (upd H l o) t N := h.keep (same_laid hl)
theorem TapeAt.ne {H : Hp} {t b : Addr} {N : Nat} (h : TapeAt H t N) (hb : H b = none) : b ≠ t := by
  obtain ⟨p, ns, spot, rest, a, -⟩ := h
  exact (ne_of_none a hb).symm
theorem TapeAt.chg {H : Hp} {t l : Addr} {N : Nat} {o u : HO} (h : TapeAt H t N) (hl : H l = some u) (hu : ∀ xs, u ≠ .lst xs) : TapeAt (upd H l o) t N := by
  obtain ⟨p, ns, spot, rest, a, b, c⟩ := h
  exact ⟨p, ns, spot, rest, by rw [upd_ne (ne_of a hl fun z => hu _ z.symm)]; exact a, by rw [upd_ne (ne_of b hl fun z => hu _ z.symm)]; exact b, c⟩
theorem TapeP.keepF {H H' : Hp} {t p : Addr} {N M : Nat} (h : TapeP H t p N) (k1 : ∀ o, H t = some o → H' t = some o) (k2 : ∀ o, H p = some o → H' p = some o) (l : N ≤ M) : TapeP H' t p M := by
  obtain ⟨ns, spot, rest, a, b, c, d, e, f⟩ := h
  exact ⟨ns, spot, rest, k1 _ a, k2 _ b, c, d, om, f⟩
inductive spDrawP_r (vs : List V) (H : Hp) (Q : VK) : Prop
  | mk : ∀ (t p : Addr) (N : Nat) (many : Int), (vs = [.ref t, .int many]) → (TapeP H t p N) → (N < 1000000) → (0 < many) → (many < 1000000) → (∀ (r : Int) (H' : Hp), 0 ≤ r → r < many → TapeP H' t p (N + 1) → (∀ b, b ≠ t → H' b = H b) → Q (.int r) H') → spDrawP_r vs H Q
noncomputable def spDrawP : Sp := fun vs H Q _ => spDrawP_r vs H Q
inductive spDraw_r (vs : List V) (H : Hp) (Q : VK) : Prop
  | mk : ∀ (t : Addr) (N : Nat) (many : Int), (vs = [.ref t, .int many]) → (TapeAt H t N) → (N < 1000000) → (0 < many) → (many < 1000000) → (∀ (r : Int) (H' : Hp), 0 ≤ r → r < many → TapeAt H' t (N + 1) → (∀ b, b ≠ t → H' b = H b) → Q (.int r) H') → spDraw_r vs H Q
noncomputable def spDraw : Sp := fun vs H Q _ => spDraw_r vs H Q
inductive spTape_r (K : PySem.W.Frag) (vs : List V) (H : Hp) (Q : VK) : Prop
  | mk : ∀ (a : Addr) (ns : List Int), (vs = [.ref a]) → (SqL K H a (ns.map V.int)) → (ns.length ≤ 63) → (∀ (t : Addr) (H' : Hp), H t = none → TapeAt H' t 0 → Same H H' → Q (.ref t) H') → spTape_r K vs H Q
noncomputable def spTape (K : PySem.W.Frag) : Sp := fun vs H Q _ => spTape_r K vs H Q
section
variable {P : Program} {w : World} {K : PySem.W.Frag} {mg : Str → Option Value} {base : Heap}
theorem scTape : FnScope ["_law_script"] ["_law_script"] (defScope sTape) := ⟨rfl, rfl, rfl, by decide +kernel, rfl, by decide +kernel, by decide +kernel⟩
theorem ok_tape {f : Addr} {fd : FuncData} (F : Fun K "_law_tape" "_law_tape" sTape f fd) : FnOk P w K mg base CX0 1 f fd ["_law_script"] (spTape K) := by
  refine F.ok scTape (fun vs H Q E h => ?_) (fun cdv A outer s H vs Q E hr h => ?_)
  · obtain ⟨a, ns, rfl, -⟩ := h
    rfl
  · obtain ⟨a, ns, rfl, hS, hl, k⟩ := h
    refine ⟨_, pss_one (ps_ret (pe_lst (pa_cons (pe_slice sl_list (pv 0) po_none (po_some pe_int)) (pa_int (pa_int pa_nil))))), ?_⟩
    refine ⟨_, rfl, _, rfl, a, _, rfl, hS, fun p hp => ⟨by show 3 ≤ sizeLine; decide, fun t ht => ?_⟩⟩
    have npt : p ≠ t := fun e => by rw [e, upd_same] at ht; cases ht
    have e1 : cutV (ns.map V.int) none (some 63) = (ns.take 63).map V.int := by
      unfold cutV
      rw [HT.sIx_none, List.drop_zero, Nat.sub_zero, List.length_map, show (63 : Int) = ((63 : Nat) : Int) from rfl, HT.sIx_nat, List.map_take]
      rw [show min 63 ns.length = ns.length by first | lia | omega, List.take_of_length_le (by rw [List.length_map]; exact Nat.le_refl _), List.take_of_length_le (by rw [List.length_map]; exact hl)]
    have ht0 : H t = none := by rw [upd_ne npt.symm] at ht; exact ht
    refine k t _ ht0 ⟨p, ns.take 63, 0, 0, upd_same, ?_, npt, Int.le_refl _, Int.le_refl _, Int.le_refl _, by rw [List.length_take]; (first | lia | omega)⟩ ?_
    · rw [upd_ne npt, upd_same, e1]
    · exact same_chg (same_laid hp) ht0
theorem scDraw : FnScope ["_law_tape_here", "_law_many", "_law_found", "_law_spot", "_law_cell", "_law_mixed"] ["_law_tape_here", "_law_many"] (defScope sDraw) := ⟨rfl, rfl, rfl, by decide +kernel, rfl, by decide +kernel, by decide +kernel⟩
theorem mod_in {a m : Int} (h : 0 < m) : 0 ≤ a % m ∧ a % m < m := ⟨Int.emod_nonneg _ om, Int.emod_lt_of_pos _ h⟩
theorem ok_drawP {f : Addr} {fd : FuncData} (F : Fun K "_law_draw" "_law_draw" sDraw f fd) (mLen : mg "len" = none) : FnOk P w K mg base CX0 1 f fd ["_law_tape_here", "_law_many"] spDrawP := by
  refine F.ok scDraw (fun vs H Q E h => ?_) (fun cdv A outer s H vs Q E hr h => ?_)
  · obtain ⟨t, p, N, many, rfl, -⟩ := h
    rfl
  · obtain ⟨t, p, N, many, rfl, T, hN, hm0, hm1, k⟩ := h
    obtain ⟨ns, spot, rest, ht, hp, hne, hs0, hs1, hr0, hl⟩ := T
    refine ⟨_, pss_cons (ps_if (pt_cmpR op_gt (pe_ix ix_list (pv 0) pe_int (fun _ _ => rfl)) pe_int (nomark _))
        (pss_cons (ps_set (i := 2) scDraw.nd rfl (Or.inl rfl) (pe_op op_mod (pe_ix ix_list (pv 0) pe_int (fun _ _ => rfl)) (pv 1)))
        (pss_cons (ps_asg (pe_op op_fdiv (pe_ix ix_list (pv 0) pe_int (fun _ _ => rfl)) (pv 1)) (pg_sub (pv 0) pe_int set_list))
        (pss_one (ps_ret (pv 2))))) pss_nil)
      (pss_cons (ps_set (i := 3) scDraw.nd rfl (Or.inl rfl) (pe_ix ix_list (pv 0) pe_int (fun _ _ => rfl)))
      (pss_cons (ps_asg (pe_op op_add (pv 3) pe_int) (pg_sub (pv 0) pe_int set_list))
      (pss_cons (ps_set (i := 4) scDraw.nd rfl (Or.inl rfl) (pe_ifExp (pt_cmpR op_gt (pe_callB call_len_seq (by rfl) mLen PySem.boot_len (pa_cons (pe_ix ix_list (pv 0) pe_int (fun _ _ => rfl)) pa_nil)) pe_int (nomark _))
        (pe_ix ix_list (pe_ix ix_list (pv 0) pe_int (fun _ _ => rfl)) (pe_op op_mod (pv 3) (pe_callB call_len_seq (by rfl) mLen PySem.boot_len (pa_cons (pe_ix ix_list (pv 0) pe_int (fun _ _ => rfl)) pa_nil))) (fun _ _ => rfl)) pe_int))
      (pss_cons (ps_if (pw_and (pt_cmpR op_ge (pv 4) (pe_op op_pow pe_int pe_int) (nomark _)) (pw_and1 (pt_cmpR op_lt (pv 3) (pe_callB call_len_seq (by rfl) mLen PySem.boot_len (pa_cons (pe_ix ix_list (pv 0) pe_int (fun _ _ => rfl)) pa_nil)) (nomark _)))).pt
        (pss_cons (ps_asg (pe_op op_fdiv (pv 4) (pv 1)) (pg_sub (pv 0) pe_int set_list)) (pss_one (ps_ret (pe_op op_mod (pv 4) (pv 1))))) pss_nil)
      (pss_cons (ps_set (i := 5) scDraw.nd rfl (Or.inl rfl) (pe_op op_mod (pe_op op_mul (pe_op op_add (pe_op op_mod (pv 4) pe_int) pe_int) (pe_op op_add pe_int (pe_op op_mul pe_int (pv 3)))) pe_int))
      (pss_one (ps_ret (pe_op op_mod (pe_op op_fdiv (pe_op op_mod (pe_op op_mul (pe_op op_add (pv 5) (pe_op op_mul (pe_op op_mul pe_int (pv 3)) (pv 3))) pe_int) pe_int) pe_int) (pv 1))))))))), ?_⟩
    have cd : CDiv 0 many := ⟨hm0, om⟩
    refine ⟨_, rfl, t, _, _, _, rfl, rfl, SqL.of ht, rfl, _, _, rfl, rfl, _, rfl, ?_⟩
    refine ite2 (fun hc => ?_) (fun hc => ?_)
    · have hpos : 0 < rest := of_decide_eq_true hc
      refine ⟨_, rfl, t, _, _, _, rfl, rfl, SqL.of ht, rfl, _, rfl, _, _, rfl, rfl, hm0, ?_⟩
      refine ⟨_, rfl, t, _, _, _, rfl, rfl, SqL.of ht, rfl, _, rfl, _, _, rfl, rfl, cd, ?_⟩
      refine ⟨_, rfl, t, _, _, 2, rfl, rfl, ht, rfl, ?_⟩
      refine ⟨_, rfl, ?_⟩
      refine k _ _ (mod_in hm0).1 (mod_in hm0).2 ⟨ns, spot, rest / many, upd_same, by rw [upd_ne hne]; exact hp, hne, hs0, om, Int.ediv_nonneg hr0 om, hl⟩ fun b hb => upd_ne hb
    · -- spot = tape[1]; tape[1] = spot + 1
      refine ⟨_, rfl, t, _, _, _, rfl, rfl, SqL.of ht, rfl, ?_⟩
      refine ⟨_, rfl, _, _, rfl, rfl, _, rfl, t, _, _, 1, rfl, rfl, ht, rfl, ?_⟩
      have ht1 : (upd H t (.lst [.ref p, .int (spot + 1), .int rest])) t = some (.lst [.ref p, .int (spot + 1), .int rest]) := upd_same
      have hp1 : (upd H t (.lst [.ref p, .int (spot + 1), .int rest])) p = some (.lst (ns.map V.int)) := by rw [upd_ne hne]; exact hp
      have ex : 0 < ((ns.map V.int).length : Int) → ∃ c, atI (ns.map V.int) (spot % ((ns.map V.int).length : Int)) = some (.int c) := fun h => by
        have hb := mod_in (a := spot) h
        obtain ⟨j, hj⟩ := Int.eq_ofNat_of_zero_le hb.1
        have hlt : j < ns.length := by
          have h2 := hb.2
          rw [hj, List.length_map] at h2
          (first | lia | omega)
        refine ⟨ns[j], ?_⟩
        rw [hj]
        exact atI_nat (by simp [hlt])
      refine ⟨_, rfl, t, _, _, _, rfl, rfl, SqL.of ht1, rfl, p, _, rfl, .inl (SqL.of hp1), _, _, rfl, rfl, _, rfl, ?_⟩
      refine ite2 (fun h2 => ?a) (fun h2 => ?b)
      case' a =>
        obtain ⟨c, hc⟩ := ex (of_decide_eq_true h2)
        refine ⟨_, rfl, t, _, _, _, rfl, rfl, SqL.of ht1, rfl, _, rfl, _, rfl, t, _, _, _, rfl, rfl, SqL.of ht1, rfl, p, _, rfl, .inl (SqL.of hp1), _, _, rfl, rfl, of_decide_eq_true h2, p, _, _, _, rfl, rfl, SqL.of hp1, hc, ?_⟩
      all_goals
        refine ⟨_, rfl, _, _, rfl, rfl, ⟨by decide, by decide, by decide⟩, _, _, rfl, rfl, _, rfl, ?_⟩
        refine ite2 (fun h3 => ?_) (fun h3 => ?_)
      all_goals first
        | (refine ⟨_, rfl, _, rfl, t, _, _, _, rfl, rfl, SqL.of ht1, rfl, p, _, rfl, .inl (SqL.of hp1), _, _, rfl, rfl, _, rfl, ?_⟩; refine ite2 (fun h4 => ?_) (fun h4 => ?_))
        | refine iteF ?_
      all_goals first
        | (refine ⟨_, rfl, _, rfl, _, _, rfl, rfl, ⟨hm0, om⟩, _, rfl, t, _, _, 2, rfl, rfl, ht1, rfl, ?_⟩
           refine ⟨_, rfl, _, rfl, _, _, rfl, rfl, hm0, ?_⟩
           refine k _ _ (mod_in hm0).1 (mod_in hm0).2 ⟨ns, spot + 1, _, upd_same, by rw [upd_ne hne]; exact hp1, hne, om, om, Int.ediv_nonneg (Int.le_trans (show (0 : Int) ≤ 10 ^ (18 : Int).toNat by decide) (of_decide_eq_true h3)) om, hl⟩ fun b hb => by rw [upd_ne hb, upd_ne hb])
        | (refine ⟨_, rfl, _, _, rfl, rfl, (by first | decide | (dsimp only; decide)), _, _, rfl, rfl, _, rfl, _, _, rfl, rfl, .inl ⟨by decide, by decide⟩, _, _, rfl, rfl, _, _, rfl, rfl, .inl ⟨om, om⟩, _, _, rfl, rfl, (by first | decide | (dsimp only; decide)), ?_⟩
           refine ⟨_, rfl, _, rfl, _, _, rfl, rfl, .inl ⟨by decide, by decide⟩, _, rfl, _, _, rfl, rfl, .inr ⟨om, om⟩, _, _, rfl, rfl, _, _, rfl, rfl, .inr ⟨by decide, by decide⟩, _, _, rfl, rfl, (by first | decide | (dsimp only; decide)), _, _, rfl, rfl, ⟨by decide, by decide⟩, _, rfl, _, _, rfl, rfl, hm0, ?_⟩
           refine k _ _ (mod_in hm0).1 (mod_in hm0).2 ⟨ns, spot + 1, rest, ht1, hp1, hne, om, om, hr0, hl⟩ fun b hb => upd_ne hb)
theorem ok_draw {f : Addr} {fd : FuncData} (F : Fun K "_law_draw" "_law_draw" sDraw f fd) (mLen : mg "len" = none) : FnOk P w K mg base CX0 1 f fd ["_law_tape_here", "_law_many"] spDraw :=
  (ok_drawP F mLen).imp fun vs H Q E ⟨t, N, many, e, ⟨p, T⟩, a, b, c, k⟩ => ⟨t, p, N, many, e, T, a, b, c, fun r H' h0 h1 T' he => k r H' h0 h1 ⟨p, T'⟩ he⟩
end
theorem menu_at {L : List Int} {r : Int} (h0 : 0 ≤ r) (h1 : r < L.length) : ∃ n, n ∈ L ∧ atI (L.map V.int) r = some (.int n) := by
  obtain ⟨j, rfl⟩ := Int.eq_ofNat_of_zero_le h0
  have hj : j < L.length := by first | lia | omega
  exact ⟨L[j], List.getElem_mem hj, atI_nat (by simp [hj])⟩
inductive spN_r (vs : List V) (H : Hp) (Q : VK) : Prop
  | mk : ∀ (t : Addr) (N : Nat), (vs = [.ref t]) → (TapeAt H t N) → (N < 900000) → (∀ (n : Int) (H' : Hp), 1 ≤ n → n ≤ 12 → TapeAt H' t (N + 1) → Sm t H H' → Q (.int n) H') → spN_r vs H Q
noncomputable def spN : Sp := fun vs H Q _ => spN_r vs H Q
inductive WebAt_r (H : Hp) (wa : Addr) (n : Int) (ts : List T3) : Prop
  | mk : ∀ (ta : Addr) (tys : List V), (H wa = some (.tup [.int n, .ref ta])) → (H ta = some (.tup tys)) → (TupsAre H tys (ts.map tl)) → (GW n ts) → WebAt_r H wa n ts
noncomputable def WebAt (H : Hp) (wa : Addr) (n : Int) (ts : List T3) : Prop := WebAt_r H wa n ts
theorem WebAt.keepT {H H' : Hp} {wa : Addr} {n : Int} {ts : List T3} (h : WebAt H wa n ts) (k : ∀ b ys, H b = some (.tup ys) → H' b = some (.tup ys)) : WebAt H' wa n ts := by
  obtain ⟨ta, tys, a, b, c, d⟩ := h
  exact ⟨ta, tys, k _ _ a, k _ _ b, c.keep k, d⟩
theorem WebAt.keep {H H' : Hp} {wa : Addr} {n : Int} {ts : List T3} (h : WebAt H wa n ts) (k : Same H H') : WebAt H' wa n ts := h.keepT fun b _ e => k b _ e
theorem WebAt.sm {H H' : Hp} {wa t : Addr} {N : Nat} {n : Int} {ts : List T3} (h : WebAt H wa n ts) (T : TapeAt H t N) (k : Sm t H H') : WebAt H' wa n ts := h.keepT fun b _ e => by
  obtain ⟨p, ns, spot, rest, a, -⟩ := T
  exact k b _ (ne_of e a (by intro z; cases z)) e
inductive spWeb_r (vs : List V) (H : Hp) (Q : VK) : Prop
  | mk : ∀ (t : Addr) (N : Nat) (n : Int), (vs = [.ref t, .int n]) → (TapeAt H t N) → (N < 900000) → (1 ≤ n) → (n ≤ 24) → (∀ (wa : Addr) (ts : List T3) (H' : Hp), H wa = none → WebAt H' wa n ts → TapeAt H' t (N + 200) → Sm t H H' → Q (.ref wa) H') → spWeb_r vs H Q
noncomputable def spWeb : Sp := fun vs H Q _ => spWeb_r vs H Q
noncomputable def JD (n : Int) (kvs : List (List Key × V)) : Prop := (∀ kv ∈ kvs, ∃ a b l : Int, kv = ([Sum.inl a, Sum.inl b], V.int l) ∧ 0 ≤ a ∧ a < b ∧ b < n ∧ 1 ≤ l ∧ l ≤ 99) ∧ (kvs.map (·.1)).Nodup
theorem JD.nil (n : Int) : JD n [] := ⟨fun _ h => by simp at h, List.nodup_nil⟩
theorem JD.put {n : Int} {kvs : List (List Key × V)} (h : JD n kvs) {a b l : Int} (h0 : 0 ≤ a) (h1 : a < b) (h2 : b < n) (h3 : 1 ≤ l) (h4 : l ≤ 99) : JD n (putK kvs [Sum.inl a, Sum.inl b] (.int l)) := by
  cases e : valV kvs [Sum.inl a, Sum.inl b] with
  | none =>
    refine ⟨fun kv hkv => ?_, nd_putK _ h.2 e⟩
    rw [putK_new _ e] at hkv
    rcases List.mem_append.mp hkv with q | q
    · exact h.1 kv q
    · rw [List.mem_singleton.mp q]; exact ⟨a, b, l, rfl, h0, h1, h2, h3, h4⟩
  | some v =>
    have ha : (kvs.any fun kv => decide (kv.1 = [Sum.inl a, Sum.inl b])) = true := by rw [valV_any, e]; rfl
    unfold putK
    rw [if_pos ha]
    refine ⟨fun kv hkv => ?_, ?_⟩
    · obtain ⟨q, hq, e2⟩ := List.mem_map.mp hkv
      by_cases hk : q.1 = [Sum.inl a, Sum.inl b]
      · rw [if_pos hk, hk] at e2; rw [← e2]; exact ⟨a, b, l, rfl, h0, h1, h2, h3, h4⟩
      · rw [if_neg hk] at e2; rw [← e2]; exact h.1 q hq
    · have e3 : (kvs.map fun kv => if kv.1 = [Sum.inl a, Sum.inl b] then (kv.1, V.int l) else kv).map (·.1) = kvs.map (·.1) := by
        rw [List.map_map]
        refine List.map_congr_left fun kv _ => ?_
        show (if kv.1 = [Sum.inl a, Sum.inl b] then (kv.1, V.int l) else kv).1 = kv.1
        split <;> rfl
      rw [e3]; exact h.2
noncomputable def unk : Key → Int
  | .inl i => i
  | .inr _ => 0
noncomputable def keysI (kvs : List (List Key × V)) : List (List Int) := kvs.map fun kv => kv.1.map unk
theorem JD.keys {n : Int} {kvs : List (List Key × V)} (h : JD n kvs) : kvs.map (·.1) = (keysI kvs).map (List.map Sum.inl) := by
  unfold keysI
  rw [List.map_map]
  refine List.map_congr_left fun kv hkv => ?_
  obtain ⟨a, b, l, e, -⟩ := h.1 kv hkv
  rw [e]; rfl
theorem JD.ne {n : Int} {kvs : List (List Key × V)} (h : JD n kvs) : ∀ k ∈ keysI kvs, k ≠ [] := fun k hk => by
  obtain ⟨kv, hkv, e⟩ := List.mem_map.mp hk
  obtain ⟨a, b, l, e2, -⟩ := h.1 kv hkv
  rw [← e, e2]; simp [List.map]
theorem JD.nd {n : Int} {kvs : List (List Key × V)} (h : JD n kvs) : (keysI kvs).Nodup := by
  have e := h.2
  rw [h.keys] at e
  rw [List.Nodup, List.pairwise_map] at e
  exact e.imp fun h e' => h (by rw [e'])
theorem JD.val {n : Int} {kvs : List (List Key × V)} (h : JD n kvs) {k : List Int} (hk : k ∈ keysI kvs) : ∃ a b l, k = [a, b] ∧ valV kvs [Sum.inl a, Sum.inl b] = some (.int l) ∧ 0 ≤ a ∧ a < b ∧ b < n ∧ 1 ≤ l ∧ l ≤ 99 := by
  obtain ⟨kv, hkv, e⟩ := List.mem_map.mp hk
  obtain ⟨a, b, l, e2, h0, h1, h2, h3, h4⟩ := h.1 kv hkv
  have ek : k = [a, b] := by rw [← e, e2]; rfl
  have hm : (kvs.any fun kv => decide (kv.1 = [Sum.inl a, Sum.inl b])) = true := List.any_eq_true.mpr ⟨kv, hkv, decide_eq_true (by rw [e2])⟩
  rw [valV_any] at hm
  cases hv : valV kvs [Sum.inl a, Sum.inl b] with
  | none => rw [hv] at hm; cases hm
  | some v =>
    have hv0 := hv
    unfold valV at hv
    cases hf : kvs.find? fun kv => decide (kv.1 = [Sum.inl a, Sum.inl b]) with
    | none => rw [hf] at hv; cases hv
    | some q =>
      rw [hf] at hv
      obtain ⟨a', b', l', e3, _, _, _, g3, g4⟩ := h.1 q (List.mem_of_find?_eq_some hf)
      have ev : v = .int l' := by rw [e3] at hv; exact (Option.some.inj hv).symm
      exact ⟨a, b, l', ek, by rw [hv0, ev], h0, h1, h2, g3, g4⟩
section
variable {P : Program} {w : World} {K : PySem.W.Frag} {mg : Str → Option Value} {base : Heap}
theorem scN : FnScope ["_law_tape_here"] ["_law_tape_here"] (defScope sN) := ⟨rfl, rfl, rfl, by decide +kernel, rfl, by decide +kernel, by decide +kernel⟩
theorem ok_n {f fD : Addr} {fd fdD : FuncData} (F : Fun K "_law_n" "_law_n" sN f fd) (FD : Fun K "_law_draw" "_law_draw" sDraw fD fdD) (bD : Binds K fdD ["_law_tape_here", "_law_many"] []) (mD : mg "_law_draw" = some (.ref fD)) (mLen : mg "len" = none) :
    FnOk P w K mg base CX0 2 f fd ["_law_tape_here"] spN := by
  have GD : FnOk P w K mg base CX0 1 fD fdD ["_law_tape_here", "_law_many"] spDraw := ok_draw FD mLen
  refine F.ok scN (fun vs H Q E h => ?_) (fun cdv A outer s H vs Q E hr h => ?_)
  · obtain ⟨t, N, rfl, -⟩ := h
    rfl
  · obtain ⟨t, N, rfl, T, hN, k⟩ := h
    obtain ⟨es, q1, q2, j3, q3, q4, p1, p2, p3, hb, hes⟩ : ∃ es q1 q2 j3 q3 q4 p1 p2 p3, defBody sN = [.Return (some (.Subscript (.List es p1) (.Call (.Name "_law_draw" q1) [.Name "_law_tape_here" q2, .Constant (.int 12) j3 q3] [] q4) p2)) p3] ∧
      LitInts es [1, 2, 3, 4, 5, 6, 7, 8, 6, 5, 4, 12] := ⟨_, _, _, _, _, _, _, _, _, rfl, by repeat constructor⟩
    rw [hb]
    refine ⟨_, pss_one (ps_ret (pe_ix ix_list (pe_lst (pa_lits hes))
      (pe_call GD hr rfl mD FD.kp bD .nil pass0 (pa_cons (pv 0) (pa_cons pe_int pa_nil))) (fun _ _ => rfl))), ?_⟩
    refine ⟨by show 12 ≤ sizeLine; decide, fun l hl => ?_⟩
    refine ⟨_, rfl, t, N, 12, rfl, T.laid hl, om, by decide, by decide, fun r H' h0 h1 T' he => ?_⟩
    have nlt : l ≠ t := T.ne hl
    obtain ⟨n, hn, ha⟩ := menu_at (L := [1, 2, 3, 4, 5, 6, 7, 8, 6, 5, 4, 12]) h0 h1
    have hb : 1 ≤ n ∧ n ≤ 12 := by
      have : ∀ m ∈ ([1, 2, 3, 4, 5, 6, 7, 8, 6, 5, 4, 12] : List Int), 1 ≤ m ∧ m ≤ 12 := by decide
      exact this n hn
    refine ⟨l, _, _, _, rfl, rfl, SqL.of (by rw [he l nlt]; exact upd_same), ha, ?_⟩
    refine k n H' hb.1 hb.2 T' fun b o hb e => ?_
    rw [he b hb, upd_ne (ne_of_none e hl)]
    exact e
end
section
variable {P : Program} {w : World} {K : PySem.W.Frag} {mg : Str → Option Value} {base : Heap}
structure WI (H : Hp) (t d la : Addr) (n : Int) (N m : Nat) (H2 : Hp) : Prop where
  sm : Sm t H H2
  tp : TapeAt H2 t N
  dc : ∃ kvs, H2 d = some (.dT kvs) ∧ JD n kvs ∧ kvs.length ≤ m
  lg : ∃ l0 l1 l2 : Int, H2 la = some (.lst [.int l0, .int l1, .int l2]) ∧ (∀ l ∈ [l0, l1, l2], 1 ≤ l ∧ l ≤ 99)
theorem WI.draw {H H2 H3 : Hp} {t d la : Addr} {n : Int} {N m : Nat} (h : WI H t d la n N m H2) (hd : d ≠ t) (hl : la ≠ t) (T : TapeAt H3 t (N + 1)) (he : ∀ b, b ≠ t → H3 b = H2 b) : WI H t d la n (N + 1) m H3 := by
  refine ⟨fun b o nb e => by rw [he b nb]; exact h.sm b o nb e, T, ?_, ?_⟩
  · rw [he d hd]; exact h.dc
  · rw [he la hl]; exact h.lg
theorem WI.laid {H H2 : Hp} {t d la l : Addr} {n : Int} {N m : Nat} {o : HO} (h : WI H t d la n N m H2) (hl : H2 l = none) : WI H t d la n N m (upd H2 l o) := by
  obtain ⟨kvs, a, b⟩ := h.dc
  obtain ⟨l0, l1, l2, c, e⟩ := h.lg
  exact ⟨h.sm.trans (Sm.laid hl), h.tp.laid hl, ⟨kvs, by rw [upd_ne (ne_of_none a hl)]; exact a, b⟩, ⟨l0, l1, l2, by rw [upd_ne (ne_of_none c hl)]; exact c, e⟩⟩
theorem WI.put {H H2 : Hp} {t d la : Addr} {n : Int} {N m : Nat} {kvs : List (List Key × V)} (h : WI H t d la n N m H2) (hd0 : H d = none) (hd : H2 d = some (.dT kvs)) {a b l : Int} (h0 : 0 ≤ a) (h1 : a < b) (h2 : b < n) (h3 : 1 ≤ l) (h4 : l ≤ 99) :
    WI H t d la n N (m + 1) (upd H2 d (.dT (putK kvs [Sum.inl a, Sum.inl b] (.int l)))) := by
  obtain ⟨kvs', e, j, hm⟩ := h.dc
  rw [hd] at e
  cases e
  obtain ⟨l0, l1, l2, c, e⟩ := h.lg
  refine ⟨h.sm.chg hd0, h.tp.chg hd (by intro xs z; cases z), ⟨_, upd_same, j.put h0 h1 h2 h3 h4, ?_⟩, ⟨l0, l1, l2, by rw [upd_ne (ne_of c hd (by intro z; cases z))]; exact c, e⟩⟩
  have := length_putK kvs [Sum.inl a, Sum.inl b] (V.int l)
  (first | lia | omega)
theorem WI.up {H H2 : Hp} {t d la : Addr} {n : Int} {N m N' m' : Nat} (h : WI H t d la n N m H2) (hN : N ≤ N') (hm : m ≤ m') : WI H t d la n N' m' H2 := by
  obtain ⟨kvs, a, b, c⟩ := h.dc
  exact ⟨h.sm, h.tp.mono hN, ⟨kvs, a, b, om⟩, h.lg⟩
theorem at3 {l0 l1 l2 r : Int} (h : ∀ l ∈ [l0, l1, l2], 1 ≤ l ∧ l ≤ 99) (h0 : 0 ≤ r) (h1 : r < 3) : ∃ l, atI [V.int l0, V.int l1, V.int l2] r = some (.int l) ∧ 1 ≤ l ∧ l ≤ 99 := by
  obtain ⟨l, hl, ha⟩ := menu_at (L := [l0, l1, l2]) h0 h1
  exact ⟨l, ha, h l hl⟩
theorem small_line {n : Nat} (h : n ≤ 100000) : n < sizeLine := Nat.lt_of_le_of_lt h (by decide)
theorem ties_of {n : Int} {kvs : List (List Key × V)} {ms : List (List Int)} (h : JD n kvs) (hp : ms.Perm (keysI kvs)) (hl : kvs.length < 64) (hn : 1 ≤ n) (hn2 : n ≤ 24) {ts : List T3} (e : ts.map (fun t => [t.1, t.2.1]) = ms) (hr : ∀ t ∈ ts, 0 ≤ t.1 ∧ t.1 < t.2.1 ∧ t.2.1 < n ∧ 1 ≤ t.2.2 ∧ t.2.2 ≤ 99) : GW n ts := by
  have hlen : ts.length = kvs.length := by
    have := hp.length_eq
    rw [← e] at this
    simpa [keysI] using this
  refine ⟨hn, hn2, om, hr, ?_⟩
  have nd : (ts.map fun t : T3 => [t.1, t.2.1]).Nodup := by rw [e]; exact hp.nodup_iff.mpr h.nd
  rw [List.Nodup, List.pairwise_map] at nd
  exact nd.imp fun hne hc => hne (by rw [hc.1, hc.2])
theorem scWeb : FnScope ["_law_tape_here", "_law_n_here", "_law_longs", "_law_joined_here", "_law_b", "_law_k", "_law_a"] ["_law_tape_here", "_law_n_here"] (defScope sWeb) := ⟨rfl, rfl, rfl, by decide +kernel, rfl, by decide +kernel, by decide +kernel⟩
theorem ok_web {f fD : Addr} {fd fdD : FuncData} (F : Fun K "_law_web" "_law_web" sWeb f fd) (FD : Fun K "_law_draw" "_law_draw" sDraw fD fdD) (bD : Binds K fdD ["_law_tape_here", "_law_many"] []) (mD : mg "_law_draw" = some (.ref fD)) (mLen : mg "len" = none)
    (mRange : mg "range" = none) (mTuple : mg "tuple" = none) (mSorted : mg "sorted" = none) : FnOk P w K mg base CX0 2 f fd ["_law_tape_here", "_law_n_here"] spWeb := by
  have GD : FnOk P w K mg base CX0 1 fD fdD ["_law_tape_here", "_law_many"] spDraw := ok_draw FD mLen
  refine F.ok scWeb (fun vs H Q E h => ?_) (fun cdv A outer s H vs Q E hr h => ?_)
  · obtain ⟨t, N, n, rfl, -⟩ := h
    rfl
  · obtain ⟨t, N, n, rfl, T, hN, hn1, hn2, k⟩ := h
    have hu := hu_of hr
    obtain ⟨es, q0, q1, q2, j3, q3, q4, p1, p2, p3, hbd, hes⟩ : ∃ es q0 q1 q2 j3 q3 q4 p1 p2 p3, defBody sWeb = .Assign [.Name "_law_longs" q0] (.Subscript (.List es p1) (.Call (.Name "_law_draw" q1) [.Name "_law_tape_here" q2, .Constant (.int 4) j3 q3] [] q4) p2) p3 :: (defBody sWeb).drop 1 ∧
      LitIntss es [[1, 1, 1], [1, 2, 1], [1, 2, 3], [5, 99, 7]] := ⟨_, _, _, _, _, _, _, _, _, _, rfl, .cons (.cons (.cons (.cons .nil))) (by show 3 ≤ sizeLine; decide) (.cons (.cons (.cons (.cons .nil))) (by show 3 ≤ sizeLine; decide) (.cons (.cons (.cons (.cons .nil))) (by show 3 ≤ sizeLine; decide) (.cons (.cons (.cons (.cons .nil))) (by show 3 ≤ sizeLine; decide) (.nil))))⟩
    rw [hbd]
    refine ⟨_, pss_cons (ps_set (i := 2) scWeb.nd rfl (Or.inl rfl) (pe_ix ix_list (pe_lst (pa_litss hes))
        (pe_call GD hr rfl mD FD.kp bD .nil pass0 (pa_cons (pv 0) (pa_int pa_nil))) (fun _ _ => rfl)))
      (pss_cons (ps_set (i := 3) scWeb.nd rfl (Or.inr rfl) pe_dnewT)
      (pss_cons (ps_if (pt_cmpR op_gt (pe_call GD hr rfl mD FD.kp bD .nil pass0 (pa_cons (pv 0) (pa_int pa_nil))) pe_int (nomark _))
        (pss_one (ps_for PassesOwn.never rfl (pi_range2 rfl mRange (pa_int (pa_cons (pv 1) pa_nil))) (pg_name (i := 4) scWeb.nd rfl (Or.inl rfl))
          (pss_one (ps_dput hu (pv 3) (pe_tup (pa_cons (pe_call GD hr rfl mD FD.kp bD .nil pass0 (pa_cons (pv 0) (pa_cons (pv 4) pa_nil))) (pa_cons (pv 4) pa_nil)))
            (pe_ix ix_list (pv 2) (pe_call GD hr rfl mD FD.kp bD .nil pass0 (pa_cons (pv 0) (pa_int pa_nil))) (fun _ _ => rfl)) rfl)))) pss_nil)
      (pss_cons (ps_for PassesOwn.never rfl (pi_range1 rfl mRange (pa_cons (pe_call GD hr rfl mD FD.kp bD .nil pass0 (pa_cons (pv 0) (pa_cons (pe_op op_add (pe_op op_add pe_int (pv 1)) (pe_op op_fdiv (pv 1) pe_int)) pa_nil))) pa_nil)) (pg_name (i := 5) scWeb.nd rfl (Or.inl rfl))
          (pss_cons (ps_set (i := 6) scWeb.nd rfl (Or.inl rfl) (pe_call GD hr rfl mD FD.kp bD .nil pass0 (pa_cons (pv 0) (pa_cons (pv 1) pa_nil))))
          (pss_cons (ps_set (i := 4) scWeb.nd rfl (Or.inl rfl) (pe_call GD hr rfl mD FD.kp bD .nil pass0 (pa_cons (pv 0) (pa_cons (pv 1) pa_nil))))
          (pss_one (ps_if (pt_cmpR op_lt (pv 6) (pv 4) (nomark _)) (pss_one (ps_dput hu (pv 3) (pe_tup (pa_cons (pv 6) (pa_cons (pv 4) pa_nil)))
            (pe_ix ix_list (pv 2) (pe_call GD hr rfl mD FD.kp bD .nil pass0 (pa_cons (pv 0) (pa_int pa_nil))) (fun _ _ => rfl)) rfl)) pss_nil)))))
      (pss_one (ps_ret (pe_tup (pa_cons (pv 1) (pa_cons (pe_callTy call_tuple_of (by rfl) mTuple (by decide +kernel) (pa_cons
        (pe_comp (own := ["_law_pair"]) (cn := ["_law_joined_here"]) (ci := [3]) rfl (csc rfl rfl) ⟨rfl, rfl, rfl, trivial⟩ rfl
          (pi_list (pe_callB (call_sortedD rfl) (by rfl) mSorted (by decide +kernel) (pa_cons (pv 3) pa_nil))) (fun _ _ _ _ => pg_name (i := 0) (nd_of rfl) rfl (Or.inl rfl)) (fun _ _ _ _ => pts_nil)
          (fun _ _ _ _ => pe_tup (pa_cons (pe_ix ix_tupC (pv 0) pe_int (fun _ _ => rfl)) (pa_cons (pe_ix ix_tupC (pv 0) pe_int (fun _ _ => rfl)) (pa_cons (pe_dget hu (pv 1) (pv 0) (fun _ _ => rfl)) pa_nil))))) pa_nil)) pa_nil)))))))), ?_⟩
    intro a1 e1 a2 e2 a3 e3 a4 e4
    refine ⟨by show 4 ≤ sizeLine; decide, fun al el => ?_⟩
    have T5 := ((((T.laid (o := .lst [.int 1, .int 1, .int 1]) e1).laid (o := .lst [.int 1, .int 2, .int 1]) e2).laid (o := .lst [.int 1, .int 2, .int 3]) e3).laid (o := .lst [.int 5, .int 99, .int 7]) e4).laid (o := .lst [.ref a1, .ref a2, .ref a3, .ref a4]) el
    refine ⟨_, rfl, t, N, 4, rfl, T5, om, by decide, by decide, fun r H1 h0 h1 T1 he1 => ?_⟩
    have nel : al ≠ t := ((((T.laid (o := .lst [.int 1, .int 1, .int 1]) e1).laid (o := .lst [.int 1, .int 2, .int 1]) e2).laid (o := .lst [.int 1, .int 2, .int 3]) e3).laid (o := .lst [.int 5, .int 99, .int 7]) e4).ne el
    obtain ⟨la, l0, l1, l2, hat, hla, hb, nla⟩ : ∃ (la : Addr) (l0 l1 l2 : Int), atI [V.ref a1, V.ref a2, V.ref a3, V.ref a4] r = some (.ref la) ∧ H1 la = some (.lst [.int l0, .int l1, .int l2]) ∧ (∀ l ∈ [l0, l1, l2], 1 ≤ l ∧ l ≤ 99) ∧ la ≠ t := by
      have n1 : a1 ≠ t := T.ne e1
      have n2 : a2 ≠ t := (T.laid (o := .lst [.int 1, .int 1, .int 1]) e1).ne e2
      have n3 : a3 ≠ t := ((T.laid (o := .lst [.int 1, .int 1, .int 1]) e1).laid (o := .lst [.int 1, .int 2, .int 1]) e2).ne e3
      have n4 : a4 ≠ t := (((T.laid (o := .lst [.int 1, .int 1, .int 1]) e1).laid (o := .lst [.int 1, .int 2, .int 1]) e2).laid (o := .lst [.int 1, .int 2, .int 3]) e3).ne e4
      have g1 : H1 a1 = some (.lst [.int 1, .int 1, .int 1]) := by rw [he1 a1 n1]; exact same_laid el _ _ (same_laid e4 _ _ (same_laid e3 _ _ (same_laid e2 _ _ upd_same)))
      have g2 : H1 a2 = some (.lst [.int 1, .int 2, .int 1]) := by rw [he1 a2 n2]; exact same_laid el _ _ (same_laid e4 _ _ (same_laid e3 _ _ upd_same))
      have g3 : H1 a3 = some (.lst [.int 1, .int 2, .int 3]) := by rw [he1 a3 n3]; exact same_laid el _ _ (same_laid e4 _ _ upd_same)
      have g4 : H1 a4 = some (.lst [.int 5, .int 99, .int 7]) := by rw [he1 a4 n4]; exact same_laid el _ _ upd_same
      have hr4 : r = 0 ∨ r = 1 ∨ r = 2 ∨ r = 3 := by first | lia | omega
      rcases hr4 with rfl | rfl | rfl | rfl
      · exact ⟨a1, 1, 1, 1, rfl, g1, by decide, n1⟩
      · exact ⟨a2, 1, 2, 1, rfl, g2, by decide, n2⟩
      · exact ⟨a3, 1, 2, 3, rfl, g3, by decide, n3⟩
      · exact ⟨a4, 5, 99, 7, rfl, g4, by decide, n4⟩
    refine ⟨al, _, _, _, rfl, rfl, SqL.of (by rw [he1 al nel]; exact upd_same), hat, ?_⟩
    have sm1 : Sm t H H1 := fun b o nb e => by
      rw [he1 b nb]
      exact same_laid el _ _ (same_laid e4 _ _ (same_laid e3 _ _ (same_laid e2 _ _ (same_laid e1 _ _ e))))
    intro d hd
    have nd : d ≠ t := T1.ne hd
    have hd0 : H d = none := by
      cases q : H d with
      | none => rfl
      | some o => have := sm1 d o nd q; rw [hd] at this; cases this
    have W0 : WI H t d la n (N + 1) 0 (upd H1 d (.dT [])) := ⟨sm1.chg hd0, T1.laid hd, ⟨[], upd_same, JD.nil n, Nat.le_refl _⟩, ⟨l0, l1, l2, by rw [upd_ne (ne_of_none hla hd)]; exact hla, hb⟩⟩
    refine ⟨_, rfl, t, N + 1, 3, rfl, W0.tp, om, by decide, by decide, fun r1 H2 _ _ T2 he2 => ?_⟩
    have W2 := W0.draw nd nla T2 he2
    refine ⟨_, _, rfl, rfl, _, rfl, ?_⟩
    refine ite2 (fun _ => ?a) (fun _ => ?b)
    case' a =>
      refine ⟨_, rfl, 1, n, rfl, ⟨by decide, by decide, om, om⟩, for_range (lo := 1) (n := (n - 1).toNat) (fun i σ H3 => ∃ vb : Option V, σ = [some (.ref t), some (.int n), some (.ref la), some (.ref d), vb, none, none] ∧ WI H t d la n (N + 2 + 2 * i) i H3) ⟨none, rfl, W2⟩ ?turn ?after⟩
      case turn =>
        rintro i σ H3 hi ⟨vb, rfl, W⟩
        obtain ⟨m0, m1, m2, hm, hmb⟩ := W.lg
        refine ⟨_, rfl, _, rfl, t, N + 2 + 2 * i, 3, rfl, W.tp, om, by decide, by decide, fun r3 H4 g0 g1 T4 he4 => ?_⟩
        have W4 := W.draw nd nla T4 he4
        obtain ⟨lg, hlg, hg1, hg2⟩ := at3 hmb g0 g1
        refine ⟨la, _, _, _, rfl, rfl, SqL.of (by rw [he4 la nla]; exact hm), hlg, ?_⟩
        refine ⟨_, rfl, _, rfl, _, rfl, t, N + 2 + 2 * i + 1, 1 + i, rfl, W4.tp, by first | lia | omega, by first | lia | omega, by first | lia | omega, fun r5 H5 q0 q1 T5 he5 => ?_⟩
        have W5 := W4.draw nd nla T5 he5
        refine ⟨_, rfl, by show 2 ≤ sizeLine; decide, fun p hp => ?_⟩
        have W6 := W5.laid (o := .tup [.int r5, .int (1 + i)]) hp
        obtain ⟨kvs, hk, J, hkl⟩ := W6.dc
        refine ⟨d, _, rfl, DPut.t (k := [Sum.inl r5, Sum.inl (1 + (i : Int))]) hk upd_same (small_line om), ?_⟩
        exact ⟨_, rfl, (W6.put hd0 hk q0 q1 om hg1 hg2).up om om⟩
      case' after =>
        rintro σ H3 ⟨vb, rfl, W⟩
        have W3 : WI H t d la n (N + 50) 23 H3 := W.up om om
    case' b =>
      have W3 : WI H t d la n (N + 50) 23 H2 := W2.up om om
    all_goals
      refine ⟨_, rfl, _, rfl, _, _, rfl, rfl, _, rfl, _, _, rfl, rfl, ⟨by decide, by decide⟩, _, _, rfl, rfl, t, N + 50, _, rfl, W3.tp, om, om, om, fun r4 H4 p0 p1 T4 he4 => ?_⟩
      have W4 := W3.draw nd nla T4 he4
      refine ⟨r4, rfl, om, om, for_range (lo := 0) (n := r4.toNat) (fun i σ H5 => Ex3 fun (vb vk va : Option V) => σ = [some (.ref t), some (.int n), some (.ref la), some (.ref d), vb, vk, va] ∧ WI H t d la n (N + 51 + 3 * i) (23 + i) H5) ⟨_, _, _, rfl, W4⟩ ?turn2 ?after2⟩
      case turn2 =>
        rintro i σ H5 hi ⟨vb, vk, va, rfl, W⟩
        refine ⟨_, rfl, _, rfl, t, N + 51 + 3 * i, n, rfl, W.tp, om, om, om, fun a H6 a0 a1 T6 he6 => ?_⟩
        have W6 := W.draw nd nla T6 he6
        refine ⟨_, rfl, _, rfl, t, N + 51 + 3 * i + 1, n, rfl, W6.tp, om, om, om, fun b H7 b0 b1 T7 he7 => ?_⟩
        have W7 := W6.draw nd nla T7 he7
        refine ⟨_, rfl, _, rfl, _, _, rfl, rfl, _, rfl, ?_⟩
        refine ite2 (fun hc => ?_) (fun hc => ?_)
        · have hab : a < b := of_decide_eq_true hc
          obtain ⟨m0, m1, m2, hm, hmb⟩ := W7.lg
          refine ⟨_, rfl, _, rfl, t, N + 51 + 3 * i + 1 + 1, 3, rfl, W7.tp, om, by decide, by decide, fun r3 H8 g0 g1 T8 he8 => ?_⟩
          have W8 := W7.draw nd nla T8 he8
          obtain ⟨lg, hlg, hg1, hg2⟩ := at3 hmb g0 g1
          refine ⟨la, _, _, _, rfl, rfl, SqL.of (by rw [he8 la nla]; exact hm), hlg, ?_⟩
          refine ⟨_, rfl, _, rfl, _, rfl, by show 2 ≤ sizeLine; decide, fun p hp => ?_⟩
          have W9 := W8.laid (o := .tup [.int a, .int b]) hp
          obtain ⟨kvs, hk, J, hkl⟩ := W9.dc
          refine ⟨d, _, rfl, DPut.t (k := [Sum.inl a, Sum.inl b]) hk upd_same (small_line om), ?_⟩
          exact ⟨_, _, _, rfl, (W9.put hd0 hk a0 hab b1 hg1 hg2).up om om⟩
        · exact ⟨_, _, _, rfl, W7.up om om⟩
      case after2 =>
        rintro σ H5 ⟨vb, vk, va, rfl, W⟩
        obtain ⟨kvs, hk, J, hkl⟩ := W.dc
        have hk64 : kvs.length < 64 := by first | lia | omega
        refine ⟨_, rfl, _, rfl, d, kvs, keysI kvs, rfl, hk, J.keys, J.ne, by rw [keysI, List.length_map]; exact hk64, fun l zs ms hl TA hp _ => ?_⟩
        refine ⟨l, rfl, ⟨_, SqL.of upd_same⟩, [.ref d], rfl, fun D hD => ?_⟩
        have hlz := TA.length
        have hlm : ms.length = kvs.length := by rw [hp.length_eq, keysI, List.length_map]
        have nlD : l ≠ D := fun e => by rw [← e, upd_same] at hD; cases hD
        have hk1 : (upd H5 l (.lst zs)) d = some (.dT kvs) := same_laid hl _ _ hk
        have hD5 : H5 D = none := by rw [upd_ne nlD.symm] at hD; exact hD
        refine comp_list (a := l) (xs := zs) (fun i ys H6 => ∃ ts : List T3, ts.length = i ∧ ts.map (fun t : T3 => [t.1, t.2.1]) = ms.take i ∧ (∀ t ∈ ts, 0 ≤ t.1 ∧ t.1 < t.2.1 ∧ t.2.1 < n ∧ 1 ≤ t.2.2 ∧ t.2.2 ≤ 99) ∧ H6 D = some (.lst ys) ∧ TupsAre H6 ys (ts.map tl) ∧ Same (upd H5 l (.lst zs)) H6)
          ⟨[], rfl, rfl, fun _ h => by simp at h, upd_same, trivial, same_laid hD⟩ (fun i ys H6 h => ?_) (fun i ys H6 h => ?_) (fun i x ys H6 hx h => ?_) (fun ys H6 h => ?_)
        · obtain ⟨_, _, _, _, _, _, s6⟩ := h
          exact SqL.of (s6 _ _ upd_same)
        · obtain ⟨ts, e1, e2, _, _, T6, -⟩ := h
          have e3 := T6.length
          rw [List.length_map] at e3
          have e4 := congrArg List.length e2
          rw [List.length_map, List.length_take] at e4
          exact small_line om
        · obtain ⟨ts, e1, e2, hts, hD6, T6, s6⟩ := h
          obtain ⟨pa, kx, ex, hkx, hpa, -⟩ := TA.get hx
          subst ex
          have hpa6 : H6 pa = some (.tup (kx.map V.int)) := s6 _ _ (same_laid hl _ _ hpa)
          obtain ⟨a, b, lg, ek, hv, a0, ab, bn, lg1, lg2⟩ := J.val (hp.mem_iff.mp (List.mem_of_getElem? hkx))
          subst ek
          refine ⟨⟨rfl, rfl⟩, ?_⟩
          refine tyes ?_
          refine ⟨_, rfl, pa, _, _, _, rfl, rfl, SqT.of hpa6, rfl, _, rfl, pa, _, _, _, rfl, rfl, SqT.of hpa6, rfl, _, rfl, _, rfl, d, _, rfl, hv ▸ DGet.t (k := [Sum.inl a, Sum.inl b]) (s6 _ _ hk1) hpa6, by show 3 ≤ sizeLine; decide, fun p hp6 => ?_⟩
          have nDp : D ≠ p := ne_of_none hD6 hp6
          refine ⟨by rw [upd_ne nDp]; exact hD6, ts ++ [(a, b, lg)], by rw [List.length_append, e1]; rfl, ?_, ?_, upd_same, ?_, ?_⟩
          · rw [List.map_append, e2, List.take_add_one, hkx]; rfl
          · intro t ht
            rcases List.mem_append.mp ht with q | q
            · exact hts t q
            · rw [List.mem_singleton.mp q]; exact ⟨a0, ab, bn, lg1, lg2⟩
          · rw [List.map_append]
            refine (T6.keep fun c xs e => ?_).snoc ⟨p, rfl, by rw [upd_ne nDp.symm, upd_same]; rfl, by simp [tl]⟩
            rw [upd_ne (ne_of e hD6 (by intro z; cases z)), upd_ne (ne_of_none e hp6)]
            exact e
          · exact same_chg (s6.trans (same_laid hp6)) hD
        · obtain ⟨ts, e1, e2, hts, hD6, T6, s6⟩ := h
          refine ⟨D, ys, rfl, .inl ⟨SqL.of hD6, fun ta hta => ?_⟩⟩
          refine ⟨by show 2 ≤ sizeLine; decide, fun wa hwa => ?_⟩
          rw [hlz, List.take_of_length_le (Nat.le_refl _)] at e2
          have G : GW n ts := ties_of J hp hk64 hn1 hn2 e2 hts
          have nwt : wa ≠ ta := fun e => by rw [e, upd_same] at hwa; cases hwa
          have h6wa : H6 wa = none := by rw [upd_ne nwt] at hwa; exact hwa
          have s7 : Same H6 (upd (upd H6 ta (.tup ys)) wa (.tup [.int n, .ref ta])) := same_chg (same_laid hta) h6wa
          have T7 : TapeAt (upd (upd H6 ta (.tup ys)) wa (.tup [.int n, .ref ta])) t (N + 200) := ((W.tp.mono om).keep ((same_laid hl).trans (s6.trans s7)))
          have nwa : wa ≠ t := ((W.tp.keep ((same_laid hl).trans s6)).ne h6wa)
          have sm7 : Sm t H (upd (upd H6 ta (.tup ys)) wa (.tup [.int n, .ref ta])) := W.sm.trans (Sm.of ((same_laid hl).trans (s6.trans s7)))
          refine k wa ts _ ?_ ⟨ta, ys, upd_same, by rw [upd_ne nwt.symm, upd_same], T6.keep fun c xs e => s7 _ _ e, G⟩ T7 sm7
          cases q : H wa with
          | none => rfl
          | some o =>
            have := (W.sm.trans (Sm.of ((same_laid hl).trans s6))) wa o nwa q
            rw [h6wa] at this; cases this
end
inductive spTies_r (vs : List V) (H : Hp) (Q : VK) : Prop
  | mk : ∀ (wa : Addr) (n : Int) (ts : List T3) (p : Int), (vs = [.ref wa, .int p]) → (WebAt H wa n ts) → (∀ (l : Addr) (zs : List V) (ms : List (List Int)) (H' : Hp), Same H H' → H l = none → H' l = some (.lst zs) → TupsAre H' zs ms → ms.Perm (fd p ts) → Rises ms → Q (.ref l) H') → spTies_r vs H Q
noncomputable def spTies : Sp := fun vs H Q _ => spTies_r vs H Q
section
variable {P : Program} {w : World} {K : PySem.W.Frag} {mg : Str → Option Value} {base : Heap}
theorem scTies : FnScope ["web", "place", "found", "a", "b", "long"] ["web", "place"] (defScope sTies) := ⟨rfl, rfl, rfl, by decide +kernel, rfl, by decide +kernel, by decide +kernel⟩
theorem ok_ties {f : Addr} {fd' : FuncData} (F : Fun K "ties_at" "ties_at" sTies f fd') (mSorted : mg "sorted" = none) : FnOk P w K mg base CX0 1 f fd' ["web", "place"] spTies := by
  refine F.ok scTies (fun vs H Q E h => ?_) (fun cdv A outer s H vs Q E hr h => ?_)
  · obtain ⟨wa, n, ts, p, rfl, -⟩ := h
    rfl
  · obtain ⟨wa, n, ts, p, rfl, ⟨ta, tys, hwa, hta, TA, G⟩, k⟩ := h
    refine ⟨_, pss_cons (ps_set (i := 2) scTies.nd rfl (Or.inl rfl) (pe_lst pa_nil))
      (pss_cons (ps_for PassesOwn.never rfl (pi_tup (pe_ix ix_tup (pv 0) pe_int (fun _ _ => rfl))) (pg_tup rfl (pgs_cons (pg_name (i := 3) scTies.nd rfl (Or.inl rfl)) (pgs_cons (pg_name (i := 4) scTies.nd rfl (Or.inl rfl)) (pgs_cons (pg_name (i := 5) scTies.nd rfl (Or.inl rfl)) pgs_nil))))
        (pss_cons (ps_if (pt_cmpR op_eq (pv 3) (pv 1) (nomark _)) (pss_one (ps_expr (pe_bm PySem.F.plainAttrs_list PySem.F.slot_list_append PySem.F.type_list_append mt_append (pv 2) (pa_cons (pe_tup (pa_cons (pv 4) (pa_cons (pv 5) pa_nil))) pa_nil)))) pss_nil)
        (pss_one (ps_if (pt_cmpR op_eq (pv 4) (pv 1) (nomark _)) (pss_one (ps_expr (pe_bm PySem.F.plainAttrs_list PySem.F.slot_list_append PySem.F.type_list_append mt_append (pv 2) (pa_cons (pe_tup (pa_cons (pv 3) (pa_cons (pv 5) pa_nil))) pa_nil)))) pss_nil))))
      (pss_one (ps_ret (pe_callB call_sorted (by rfl) mSorted (by decide +kernel) (pa_cons (pv 2) pa_nil))))), ?_⟩
    refine ⟨Nat.zero_le _, fun l hl => ?_⟩
    have hwl : wa ≠ l := ne_of_none hwa hl
    have htl : ta ≠ l := ne_of_none hta hl
    have hlt : tys.length = ts.length := by rw [TA.length, List.length_map]
    refine ⟨_, rfl, wa, _, _, _, rfl, rfl, SqT.of (by rw [upd_ne hwl]; exact hwa), rfl, ta, rfl, ⟨_, SqT.of (by rw [upd_ne htl]; exact hta)⟩, for_tup (K := K) (a := ta) (xs := tys)
      (fun i σ H2 => Ex4 fun (va vb vl : Option V) (xs : List V) => C4 (σ = [some (.ref wa), some (.int p), some (.ref l), va, vb, vl]) (Same H H2) (H2 l = some (.lst xs)) (TupsAre H2 xs (fd p (ts.take i))))
      ⟨none, none, none, [], rfl, same_laid hl, upd_same, trivial⟩ (fun i σ H2 _ ⟨_, _, _, _, _, s2, _, _⟩ => SqT.of (s2 _ _ hta)) ?turn ?after⟩
    case turn =>
      rintro i y σ H2 hi ⟨va, vb, vl, xs, rfl, s2, hl2, T2⟩
      obtain ⟨ya, ky, rfl, hky, hya, -⟩ := TA.get hi
      rw [List.getElem?_map] at hky
      obtain ⟨⟨a, b, c⟩, hti, rfl⟩ : ∃ t : T3, ts[i]? = some t ∧ tl t = ky := by
        cases e : ts[i]? with
        | none => rw [e] at hky; cases hky
        | some t => rw [e] at hky; exact ⟨t, rfl, Option.some.inj hky⟩
      have hil : i < ts.length := (List.getElem?_eq_some_iff.mp hti).1
      have hlen : ∀ {xs' : List V} {H3 : Hp}, TupsAre H3 xs' (fd p (ts.take i)) → xs'.length < sizeLine := fun T => by
        have e1 := T.length
        have e2 := fd_len (n := n) p (ts := ts.take i) fun t ht => (G.rng t (List.mem_of_mem_take ht)).2.1
        rw [List.length_take] at e2
        exact small_line (by have := G.len; (first | lia | omega))
      have hfd : fd p (ts.take (i + 1)) = fd p (ts.take i) ++ ((if a = p then [[b, c]] else []) ++ (if b = p then [[a, c]] else [])) := by
        rw [List.take_add_one, hti, fd_append]
        show _ ++ ((if a = p then [[b, c]] else []) ++ (if b = p then [[a, c]] else []) ++ []) = _
        rw [List.append_nil]
      have hab : a < b := (G.rng _ (List.mem_of_getElem? hti)).2.1
      refine ⟨ya, _, rfl, SqT.of (s2 _ _ hya), rfl, _, _, rfl, _, _, rfl, _, _, rfl, rfl, ?_⟩
      have app : ∀ {x : Int}, ∀ q, H2 q = none → ∃ xs', (upd (upd H2 q (.tup [.int x, .int c])) l (.lst (xs ++ [.ref q]))) l = some (.lst xs') ∧ Same H (upd (upd H2 q (.tup [.int x, .int c])) l (.lst (xs ++ [.ref q]))) ∧ TupsAre (upd (upd H2 q (.tup [.int x, .int c])) l (.lst (xs ++ [.ref q]))) xs' (fd p (ts.take i) ++ [[x, c]]) := by
        intro x q hq
        have nlq : l ≠ q := ne_of_none hl2 hq
        refine ⟨_, upd_same, same_chg (s2.trans (same_laid hq)) hl, (T2.keep fun e ys he => ?_).snoc ⟨q, rfl, by rw [upd_ne nlq.symm, upd_same]; rfl, by simp⟩⟩
        rw [upd_ne (ne_of he hl2 (by intro z; cases z)), upd_ne (ne_of_none he hq)]
        exact he
      refine ⟨_, rfl, _, rfl, rfl, _, rfl, ?_⟩
      refine ite2 (fun h1 => ?_) (fun h1 => ?_)
      · have e1 : a = p := by have := of_decide_eq_true h1; injection this
        have n2 : ¬ b = p := by first | lia | omega
        refine ⟨_, rfl, .inl ⟨rfl, _, SqL.of hl2⟩, _, rfl, _, rfl, by show 2 ≤ sizeLine; decide, fun q hq => ?_⟩
        have nlq : l ≠ q := ne_of_none hl2 hq
        refine ⟨l, _, _, rfl, rfl, by rw [upd_ne nlq]; exact hl2, hlen T2, ?_⟩
        refine ⟨_, rfl, _, rfl, rfl, _, rfl, ?_⟩
        rw [show decide (V.int b = V.int p) = false from decide_eq_false fun e => n2 (by injection e)]
        refine iteF ?_
        obtain ⟨xs', g1, g2, g3⟩ := app (x := b) q hq
        refine ⟨_, _, _, xs', rfl, g2, g1, ?_⟩
        rw [hfd, if_pos e1, if_neg n2]
        exact g3
      · have n1 : ¬ a = p := fun e => by
          have := h1
          rw [e] at this
          exact this (decide_eq_true rfl)
        refine ⟨_, rfl, _, rfl, rfl, _, rfl, ?_⟩
        refine ite2 (fun h2 => ?_) (fun h2 => ?_)
        · have e2 : b = p := by have := of_decide_eq_true h2; injection this
          refine ⟨_, rfl, .inl ⟨rfl, _, SqL.of hl2⟩, _, rfl, _, rfl, by show 2 ≤ sizeLine; decide, fun q hq => ?_⟩
          have nlq : l ≠ q := ne_of_none hl2 hq
          refine ⟨l, _, _, rfl, rfl, by rw [upd_ne nlq]; exact hl2, hlen T2, ?_⟩
          obtain ⟨xs', g1, g2, g3⟩ := app (x := a) q hq
          refine ⟨_, _, _, xs', rfl, g2, g1, ?_⟩
          rw [hfd, if_neg n1, if_pos e2]
          exact g3
        · have n2 : ¬ b = p := fun e => by
            have := h2
            rw [e] at this
            exact this (decide_eq_true rfl)
          refine ⟨_, _, _, xs, rfl, s2, hl2, ?_⟩
          rw [hfd, if_neg n1, if_neg n2, List.append_nil, List.append_nil]
          exact T2
    case after =>
      rintro σ H2 ⟨va, vb, vl, xs, rfl, s2, hl2, T2⟩
      rw [hlt, List.take_of_length_le (Nat.le_refl _)] at T2
      have e2 := fd_len (n := n) p (ts := ts) fun t ht => (G.rng t ht).2.1
      refine ⟨_, rfl, l, xs, fd p ts, rfl, SqL.of hl2, T2, by have := G.len; (first | lia | omega), fun l' zs ms hl' T3 hp hrs => ?_⟩
      have nll : l' ≠ l := fun e => by rw [e, hl2] at hl'; cases hl'
      have hl0 : H l' = none := by
        cases q : H l' with
        | none => rfl
        | some o => have := s2 l' o q; rw [hl'] at this; cases this
      exact k l' zs ms _ (s2.trans (same_laid hl')) hl0 upd_same (T3.keep fun e ys he => same_laid hl' _ _ he) hp hrs
end
theorem heads_rise {ms : List (List Int)} (h : Rises ms) (hk : ∀ k ∈ ms, ∃ y l, k = [y, l]) (hn : (ms.map hd).Nodup) : (ms.map hd).Pairwise (· < ·) := by
  rw [List.pairwise_map]
  rw [List.Nodup, List.pairwise_map] at hn
  have both : ms.Pairwise fun a b => HT.lexLt b a = false ∧ hd a ≠ hd b := by
    rw [List.pairwise_iff_getElem]
    intro i j hi hj hij
    exact ⟨List.pairwise_iff_getElem.mp h i j hi hj hij, List.pairwise_iff_getElem.mp hn i j hi hj hij⟩
  refine both.imp_of_mem fun {a b} ha hb hab => ?_
  obtain ⟨y, l, rfl⟩ := hk a ha
  obtain ⟨z, m, rfl⟩ := hk b hb
  obtain ⟨h1, h2⟩ := hab
  have h2' : y ≠ z := h2
  rw [HT.lexLt_cons, if_neg (Ne.symm h2')] at h1
  have := of_decide_eq_false h1
  show y < z
  (first | lia | omega)
theorem eqV_int (a b : Int) : eqV (.int a) (.int b) = (a == b) := rfl
theorem inV_ints {z : Int} : ∀ {l : List Int}, inV (.int z) (l.map V.int) = decide (z ∈ l)
  | [] => rfl
  | x :: r => by
    show (eqV (.int x) (.int z) || inV (.int z) (r.map V.int)) = _
    rw [inV_ints (l := r), eqV_int]
    by_cases h : x = z
    · subst h; simp
    · have h' : (x == z) = false := by simpa using h
      rw [h', Bool.false_or]
      simp [Ne.symm h]
theorem flat_ints : ∀ (l : List Int), (l.map V.int).all flatV = true
  | [] => rfl
  | _ :: r => by rw [List.map_cons, List.all_cons, flat_ints r]; rfl
theorem dec_int' {i j : Int} : decide (V.int i = V.int j) = decide (i = j) := by
  by_cases h : i = j
  · subst h; simp
  · rw [decide_eq_false h, decide_eq_false fun e => h (by injection e)]
noncomputable def lamP : Pos := ⟨81, 36, 81, 64⟩
noncomputable abbrev lamQ : Str := (("nearest" : Str) ++ ".<locals>.") ++ "<lambda>"
noncomputable abbrev Tb (H : Hp) (PT : Addr) : Prop := TabAt H PT lamP lamQ
inductive spNear_r (PT : Addr) (vs : List V) (H : Hp) (Q : VK) : Prop
  | mk : ∀ (d : Addr) (n : Int) (kvs : List (Key × V)) (wt : Int → Option Int), (vs = [.ref d]) → (H d = some (.dK kvs)) → (WD n kvs wt) → (0 ≤ n) → (n ≤ 24) → (kvs ≠ []) → (Tb H PT) → (∀ (M e : Int) (H' : Hp), wt M = some e → (∀ q f, wt q = some f → e ≤ f) → SmT H H' → Tb H' PT → Q (.int M) H') → spNear_r PT vs H Q
noncomputable def spNear (PT : Addr) : Sp := fun vs H Q _ => spNear_r PT vs H Q
inductive spFrom_r (PT : Addr) (vs : List V) (H : Hp) (Q : VK) : Prop
  | mk : ∀ (wa : Addr) (n : Int) (ts : List T3) (s : Int), (vs = [.ref wa, .int s]) → (WebAt H wa n ts) → (0 ≤ s) → (s < n) → (Tb H PT) → (∀ (l : Addr) (kn : List (Option Int)) (H' : Hp), SmT H H' → Tb H' PT → H' l = some (.tup (kn.map oV)) → Lens ts n s kn → Q (.ref l) H') → spFrom_r PT vs H Q
noncomputable def spFrom (PT : Addr) : Sp := fun vs H Q _ => spFrom_r PT vs H Q
theorem WebAt.smT {H H' : Hp} {wa : Addr} {n : Int} {ts : List T3} (h : WebAt H wa n ts) (k : SmT H H') : WebAt H' wa n ts := h.keepT fun b ys e => by
  rcases k b _ e with ⟨ps, z⟩ | z
  · cases z
  · exact z
section
variable {P : Program} {w : World} {K : PySem.W.Frag} {mg : Str → Option Value} {base : Heap} {PT : Addr}
theorem scNear : FnScope ["waiting"] ["waiting"] (defScope sNear) := ⟨rfl, rfl, rfl, by decide +kernel, rfl, by decide +kernel, by decide +kernel⟩
theorem ok_near {f c : Addr} {fd' : FuncData} (F : FunC K "nearest" "nearest" sNear f fd' c) (C : PySem.W.CodeHd base c PT) (hbm : BmAt mg base) (mMin : mg "min" = none) (mSorted : mg "sorted" = none) : FnOk P w K mg base CX0 2 f fd' ["waiting"] (spNear PT) := by
  refine F.ok scNear (fun vs H Q E h => ?_) (fun A outer s H vs Q E hr h => ?_)
  · obtain ⟨d, n, kvs, wt, rfl, -⟩ := h
    rfl
  · obtain ⟨d, n, kvs, wt, rfl, hd, W, hn0, hn, hne, T, k⟩ := h
    refine ⟨_, pss_one (ps_ret (pe_minkey (k := 0) (j := 0) (P := PT) (c := c) (dn := "waiting") (pn := "place") rfl hr rfl mMin (pa_cons (pe_callB (call_sortedK rfl) (by rfl) mSorted (by decide +kernel) (pa_cons (pv 0) pa_nil)) pa_nil) rfl C hbm rfl rfl rfl rfl rfl (by decide +kernel) (free_of rfl) rfl rfl rfl (fun _ _ _ _ _ _ _ => rfl))), ?_⟩
    have hl := W.len hn0
    refine ⟨_, rfl, d, kvs, keysW kvs, rfl, hd, W.keys, by unfold keysW; rw [List.length_map]; (first | lia | omega), fun l ms hl' hp _ => ?_⟩
    have mem : ∀ x, x ∈ ms → ∃ e, wt x = some e := fun x hx => W.mem.mp (hp.mem_iff.mp hx)
    refine ⟨l, d, ms, kvs, fun x => (wt x).getD 0, rfl, upd_same, fun e => ?_, rfl, by rw [upd_ne (ne_of_none hd hl')]; exact hd, fun x hx => ?_, T.same (same_laid hl'), fun M H2 hM hb sm T2 => ?_⟩
    · subst e
      have := hp.length_eq
      unfold keysW at this
      rw [List.length_map] at this
      exact hne (List.eq_nil_of_length_eq_zero this.symm)
    · obtain ⟨e, he⟩ := mem x hx
      show valV kvs (Sum.inl x) = some (.int ((wt x).getD 0))
      rw [W.at_ x, he]; rfl
    · obtain ⟨e, he⟩ := mem M hM
      refine k M e H2 he (fun q f hq => ?_) ((SmT.of (same_laid hl')).trans sm) T2
      have hq' : q ∈ ms := hp.mem_iff.mpr (W.mem.mpr ⟨f, hq⟩)
      have := hb q hq'
      simp only [he, hq, Option.getD_some] at this
      exact this
theorem scFrom : FnScope ["web", "start", "known", "waiting", "place", "other", "long", "far"] ["web", "start"] (defScope sFrom) := ⟨rfl, rfl, rfl, by decide +kernel, rfl, by decide +kernel, by decide +kernel⟩
theorem map_oV_set {kn : List (Option Int)} {j : Nat} {o : Option Int} : (kn.map oV).set j (oV o) = (kn.set j o).map oV := by rw [List.map_set]
theorem oV_non {o : Option Int} : decide (oV o = V.non) = o.isNone := by
  cases o with
  | none => rfl
  | some d => exact decide_eq_false (by intro e; cases e)
theorem ok_from {f fN fT c : Addr} {fd' fdN fdT : FuncData} (F : Fun K "lengths_from" "lengths_from" sFrom f fd') (FN : FunC K "nearest" "nearest" sNear fN fdN c) (bN : Binds K fdN ["waiting"] []) (mN : mg "nearest" = some (.ref fN)) (FT : Fun K "ties_at" "ties_at" sTies fT fdT) (bT : Binds K fdT ["web", "place"] []) (mT : mg "ties_at" = some (.ref fT))
    (C : PySem.W.CodeHd base c PT) (hbm : BmAt mg base) (mMin : mg "min" = none) (mSorted : mg "sorted" = none) (mTuple : mg "tuple" = none) : FnOk P w K mg base CX0 3 f fd' ["web", "start"] (spFrom PT) := by
  have GN : FnOk P w K mg base CX0 2 fN fdN ["waiting"] (spNear PT) := ok_near FN C hbm mMin mSorted
  have GT : FnOk P w K mg base CX0 2 fT fdT ["web", "place"] spTies := (ok_ties FT mSorted).mono (by decide)
  refine F.ok scFrom (fun vs H Q E h => ?_) (fun cdv A outer s H vs Q E hr h => ?_)
  · obtain ⟨wa, n, ts, st, rfl, -⟩ := h
    rfl
  · obtain ⟨wa, n, ts, st, rfl, W, hs0, hs1, T, k⟩ := h
    obtain ⟨ta, tys, hwa, _, _, G⟩ := id W
    have hu := hu_of hr
    have hn1 := G.n1
    have hn24 := G.n24
    refine ⟨_, pss_cons (ps_set (i := 2) scFrom.nd rfl (Or.inl rfl) (pe_op op_rep (pe_lst (pa_cons pe_non pa_nil)) (pe_ix ix_tup (pv 0) pe_int (fun _ _ => rfl))))
      (pss_cons (ps_set (i := 3) scFrom.nd rfl (Or.inl rfl) (pe_disp (pps_cons (pv 1) pe_int pps_nil) rfl rfl (by decide) (by decide)))
      (pss_cons (ps_while PassesOwn.never (pt_truth (pv 3) (fun _ => rfl))
        (pss_cons (ps_set (i := 4) scFrom.nd rfl (Or.inl rfl) (pe_call GN hr rfl mN FN.kp bN .nil pass0 (pa_cons (pv 3) pa_nil)))
        (pss_cons (ps_asg (pe_dpop1 (pv 3) (pv 4) ⟨rfl, rfl, rfl, rfl⟩) (pg_sub (pv 2) (pv 4) set_list))
        (pss_one (ps_for PassesOwn.never rfl (pi_list (pe_call GT hr rfl mT FT.kp bT .nil pass0 (pa_cons (pv 0) (pa_cons (pv 4) pa_nil)))) (pg_tup rfl (pgs_cons (pg_name (i := 5) scFrom.nd rfl (Or.inl rfl)) (pgs_cons (pg_name (i := 6) scFrom.nd rfl (Or.inl rfl)) pgs_nil)))
          (pss_one (ps_if (pt_cmpR op_isN (pe_ix ix_list (pv 2) (pv 5) (fun _ _ => rfl)) pe_non (nomark _))
            (pss_cons (ps_set (i := 7) scFrom.nd rfl (Or.inl rfl) (pe_op op_add (pe_ix ix_list (pv 2) (pv 4) (fun _ _ => rfl)) (pv 6)))
            (pss_one (ps_dput hu (pv 3) (pv 5) (pe_callB (call_min2 rfl) (by rfl) mMin (by decide +kernel) (pa_cons (pv 7) (pa_cons (pe_dget2 hu (pv 3) (pv 5) (pv 7) ⟨rfl, rfl, rfl, rfl⟩) pa_nil))) rfl))) pss_nil)))))))
      (pss_one (ps_ret (pe_callTy call_tuple_of (by rfl) mTuple (by decide +kernel) (pa_cons (pv 2) pa_nil)))))), ?_⟩
    refine ⟨by show 1 ≤ sizeLine; decide, fun l0 hl0 => ?_⟩
    refine ⟨_, rfl, wa, _, _, _, rfl, rfl, SqT.of (same_laid hl0 _ _ hwa), rfl, l0, n, _, rfl, rfl, upd_same, om, om, ?_, fun kl hkl => ?_⟩
    · have : sizeLine = 16777216 := rfl
      show 1 * n.toNat ≤ sizeLine
      (first | lia | omega)
    have s1 : Same H (upd (upd H l0 (.lst [.non])) kl (.lst (List.replicate n.toNat [V.non]).flatten)) := (same_laid hl0).trans (same_laid hkl)
    have erep : (List.replicate n.toNat [V.non]).flatten = (List.replicate n.toNat (none : Option Int)).map oV := by
      generalize n.toNat = m
      induction m with
      | zero => rfl
      | succ m ih => rw [List.replicate_succ, List.flatten_cons, ih, List.replicate_succ]; rfl
    rw [erep] at s1 ⊢
    have hk1 : (upd (upd H l0 (.lst [.non])) kl (.lst ((List.replicate n.toNat (none : Option Int)).map oV))) kl = some (.lst ((List.replicate n.toNat (none : Option Int)).map oV)) := upd_same
    generalize hH1 : upd (upd H l0 (.lst [.non])) kl (.lst ((List.replicate n.toNat (none : Option Int)).map oV)) = H1 at s1 hk1 ⊢
    intro wd hwd
    refine ⟨_, rfl, upd_same, [(Sum.inl st, .int 0)], rfl, by show 1 ≤ 15; decide, ?_⟩
    have s2 : Same H (upd (upd H1 wd (.dK [])) wd (.dK [(Sum.inl st, .int 0)])) := by rw [upd_upd]; exact s1.trans (same_laid hwd)
    have nkw : kl ≠ wd := ne_of_none hk1 hwd
    rw [show mergeK [] [((Sum.inl st : Key), V.int 0)] = [((Sum.inl st : Key), V.int 0)] from rfl, upd_upd]
    rw [upd_upd] at s2
    refine ⟨fun m σ H2 => ∃ (kn : List (Option Int)) (kvs : List (Key × V)) (wt : Int → Option Int) (v4 v5 v6 v7 : Option V), σ = [some (.ref wa), some (.int st), some (.ref kl), some (.ref wd), v4, v5, v6, v7] ∧ m = n.toNat - cnt kn ∧ SmT H H2 ∧ Tb H2 PT ∧ H2 kl = some (.lst (kn.map oV)) ∧ H2 wd = some (.dK kvs) ∧ WD n kvs wt ∧ Dl ts n st kn wt,
      ⟨_, _, _, _, _, _, _, _, rfl, rfl, SmT.of s2, T.same s2, by rw [upd_ne nkw]; exact hk1, upd_same, WD.one hs0 hs1, Dl.start G hs0 hs1⟩, ?_⟩
    rintro m σ H2 ⟨kn, kvs, wt, v4, v5, v6, v7, rfl, rfl, sm, T2, hk2, hw2, WW, D⟩
    cases hkb : kvs.isEmpty with
    | true =>
      refine ⟨_, rfl, false, .inr (.inr ⟨kvs, hw2, by rw [hkb]; rfl⟩), ?_⟩
      refine iteF ?_
      have hkv : kvs = [] := List.isEmpty_iff.mp hkb
      have hnone : ∀ q, wt q = none := fun q => by
        cases e : wt q with
        | none => rfl
        | some d =>
          have := WW.mem.mpr ⟨d, e⟩
          rw [hkv] at this
          simp [keysW] at this
      refine ⟨_, rfl, kl, _, rfl, .inl ⟨SqL.of hk2, fun q hq => ?_⟩⟩
      exact k q kn _ (sm.trans (SmT.of (same_laid hq))) (T2.same (same_laid hq)) upd_same (D.done G hnone)
    | false =>
      refine ⟨_, rfl, true, .inr (.inr ⟨kvs, hw2, by rw [hkb]; rfl⟩), ?_⟩
      refine iteT ?_
      have hne : kvs ≠ [] := by intro e; rw [e] at hkb; cases hkb
      refine ⟨fun σ' H' => ∃ (kn' : List (Option Int)) (kvs' : List (Key × V)) (wt' : Int → Option Int) (v4 v5 v6 v7 : Option V), σ' = [some (.ref wa), some (.int st), some (.ref kl), some (.ref wd), v4, v5, v6, v7] ∧ cnt kn' = cnt kn + 1 ∧ SmT H H' ∧ Tb H' PT ∧ H' kl = some (.lst (kn'.map oV)) ∧ H' wd = some (.dK kvs') ∧ WD n kvs' wt' ∧ Dl ts n st kn' wt', ?_, ?_⟩
      · rintro σ' H' ⟨kn', kvs', wt', v4', v5', v6', v7', rfl, hc, sm', T', hk', hw', WW', D'⟩
        have h1 := cnt_le kn'
        have h2 := D'.ln
        exact ⟨n.toNat - cnt kn', om, kn', kvs', wt', v4', v5', v6', v7', rfl, rfl, sm', T', hk', hw', WW', D'⟩
      refine ⟨_, rfl, wd, n, kvs, wt, rfl, hw2, WW, om, hn24, hne, T2, fun M e H3 hM hmin sm3 T3 => ?_⟩
      have hk3 : H3 kl = some (.lst (kn.map oV)) := sm3.get hk2 (by intro ps z; cases z)
      have hw3 : H3 wd = some (.dK kvs) := sm3.get hw2 (by intro ps z; cases z)
      obtain ⟨hknM, hM0, hM1, hcnt, N0⟩ := D.enter G hM hmin
      have hval : valV kvs (Sum.inl M) = some (.int e) := by rw [WW.at_ M, hM]; rfl
      refine ⟨_, rfl, wd, rfl, .inl ⟨kvs, .inl hw3⟩, _, rfl, kvs, Sum.inl M, _, hw3, rfl, hval, ?_⟩
      have hlk : (kn.map oV).length = n.toNat := by rw [List.length_map]; exact D.ln
      have hk3' : (upd H3 wd (.dK (dropK kvs (Sum.inl M)))) kl = some (.lst (kn.map oV)) := by rw [upd_ne nkw]; exact hk3
      refine ⟨_, rfl, _, rfl, kl, _, M, M.toNat, rfl, rfl, hk3', ixN_in hM0 (by rw [hlk]; (first | lia | omega)), ?_⟩
      rw [show V.int e = oV (some e) from rfl, map_oV_set]
      have sm4 : SmT H (upd (upd H3 wd (.dK (dropK kvs (Sum.inl M)))) kl (.lst ((kn.set M.toNat (some e)).map oV))) := by
        intro b o hb
        rcases (sm.trans sm3) b o hb with z | z
        · exact .inl z
        · right
          have n1 : b ≠ wd := fun q => by
            have hbn : H b = none := by
              rw [q]
              cases e' : H wd with
              | none => rfl
              | some o' => have := s1 wd o' e'; rw [hwd] at this; cases this
            rw [hbn] at hb; cases hb
          have n2 : b ≠ kl := fun q => by
            have hbn : H b = none := by
              rw [q]
              cases e' : H kl with
              | none => rfl
              | some o' => have := same_laid (o := .lst [.non]) hl0 kl o' e'; rw [hkl] at this; cases this
            rw [hbn] at hb; cases hb
          rw [upd_ne n2, upd_ne n1]; exact z
      have T4 : Tb (upd (upd H3 wd (.dK (dropK kvs (Sum.inl M)))) kl (.lst ((kn.set M.toNat (some e)).map oV))) PT := by
        refine T3.keep (fun o ho => ?_) fun c φ hc => ?_
        · obtain ⟨ps, hps, -⟩ := T3
          have e1 := ho
          rw [hps] at e1; cases e1
          rw [upd_ne (ne_of ho hk3 (by intro z; cases z)), upd_ne (ne_of ho hw3 (by intro z; cases z))]; exact ho
        · rw [upd_ne (ne_of hc hk3 (by intro z; cases z)), upd_ne (ne_of hc hw3 (by intro z; cases z))]; exact hc
      have hk4 : (upd (upd H3 wd (.dK (dropK kvs (Sum.inl M)))) kl (.lst ((kn.set M.toNat (some e)).map oV))) kl = some (.lst ((kn.set M.toNat (some e)).map oV)) := upd_same
      have hw4 : (upd (upd H3 wd (.dK (dropK kvs (Sum.inl M)))) kl (.lst ((kn.set M.toNat (some e)).map oV))) wd = some (.dK (dropK kvs (Sum.inl M))) := by rw [upd_ne nkw.symm, upd_same]
      generalize upd (upd H3 wd (.dK (dropK kvs (Sum.inl M)))) kl (.lst ((kn.set M.toNat (some e)).map oV)) = H4 at sm4 T4 hk4 hw4 ⊢
      refine ⟨_, rfl, _, rfl, wa, n, ts, M, rfl, W.smT sm4, fun l zs ms H5 s5 hl5 hl5' T5 hp _ => ?_⟩
      have hlz := T5.length
      refine ⟨l, rfl, ⟨_, SqL.of hl5'⟩, for_list (K := K) (a := l) (xs := zs) (fun i σ H6 => Ex5 fun (kvs' : List (Key × V)) (wt' : Int → Option Int) (v5 v6 v7 : Option V) => C5 (σ = [some (.ref wa), some (.int st), some (.ref kl), some (.ref wd), some (.int M), v5, v6, v7]) ((∀ b o, b ≠ wd → H5 b = some o → H6 b = some o)) (H6 wd = some (.dK kvs')) (WD n kvs' wt') (Dn ts n st M e (kn.set M.toNat (some e)) wt' (fun r => ∃ j k, j < i ∧ ms[j]? = some k ∧ hd k = r)))
        ⟨_, _, _, _, _, rfl, fun _ _ _ z => z, s5 _ _ hw4, WW.drop, ⟨⟨N0.dm.kd, N0.dm.wk, N0.dm.ord, fun q e' r l' hq ha => (N0.dm.nb q e' r l' hq ha).imp (fun z => ⟨z.1, fun ⟨j, _, hj, _⟩ => absurd hj (Nat.not_lt_zero _)⟩) id, N0.dm.st, N0.dm.pd, N0.dm.mx⟩, N0.ln, N0.bk, N0.bd, N0.bw⟩⟩
        (fun i σ H6 _ ⟨_, _, _, _, _, _, s6, _, _, _⟩ => SqL.of (s6 l _ (ne_of hl5' (s5 _ _ hw4) (by intro z; cases z)) hl5')) ?turn ?after⟩
      case after =>
        rintro σ H6 ⟨kvs', wt', v5, v6, v7, rfl, s6, hw6, WW6, N6⟩
        have hk5 : H5 kl = some (.lst ((kn.set M.toNat (some e)).map oV)) := s5 _ _ hk4
        refine ⟨_, kvs', wt', _, _, _, _, rfl, hcnt, ?_, ?_, s6 kl _ nkw hk5, hw6, WW6, N6.leave fun r c ha => ?_⟩
        · intro b o hb
          rcases (sm4.trans (SmT.of s5)) b o hb with z | z
          · exact .inl z
          · right
            refine s6 b o (fun q => ?_) z
            have hbn : H b = none := by
              rw [q]
              cases e' : H wd with
              | none => rfl
              | some o' => have := s1 wd o' e'; rw [hwd] at this; cases this
            rw [hbn] at hb; cases hb
        · refine (T4.same s5).keep (fun o ho => ?_) fun c φ hc => ?_
          · obtain ⟨ps, hps, -⟩ := T4.same s5
            refine s6 PT o (fun q => ?_) ho
            rw [q, s5 _ _ hw4] at hps; cases hps
          · refine s6 c _ (fun q => ?_) hc
            rw [q, s5 _ _ hw4] at hc; cases hc
        · have hm : [r, c] ∈ ms := hp.mem_iff.mpr (mem_fd.mpr ⟨r, c, rfl, ha⟩)
          obtain ⟨j, hj, ej⟩ := List.getElem_of_mem hm
          exact ⟨j, [r, c], om, by rw [List.getElem?_eq_getElem hj, ej], rfl⟩
      case turn =>
        rintro i y σ H6 hi ⟨kvs', wt', v5, v6, v7, rfl, s6, hw6, WW6, N6⟩
        obtain ⟨ya, ky, rfl, hky, hya, -⟩ := T5.get hi
        obtain ⟨r, c, rfl, ha⟩ := mem_fd.mp (hp.mem_iff.mp (List.mem_of_getElem? hky))
        have hadj := G.adj ha
        have hk6 : H6 kl = some (.lst ((kn.set M.toNat (some e)).map oV)) := s6 kl _ nkw (s5 _ _ hk4)
        have hln : (kn.set M.toNat (some e)).length = n.toNat := N6.ln
        have seen_of : ∀ {x : Int}, (x = r ∨ ∃ j k, j < i ∧ ms[j]? = some k ∧ hd k = x) → ∃ j k, j < i + 1 ∧ ms[j]? = some k ∧ hd k = x := fun {x} z => by
          rcases z with rfl | ⟨j, k', hj, hk', e'⟩
          · exact ⟨i, [x, c], Nat.lt_succ_self _, hky, rfl⟩
          · exact ⟨j, k', Nat.lt_succ_of_lt hj, hk', e'⟩
        have sub : ∀ {x : Int}, (∃ j k, j < i + 1 ∧ ms[j]? = some k ∧ hd k = x) → (∃ j k, j < i ∧ ms[j]? = some k ∧ hd k = x) ∨ x = r := fun {x} ⟨j, k', hj, hk', e'⟩ => by
          by_cases hji : j < i
          · exact .inl ⟨j, k', hji, hk', e'⟩
          · have : j = i := by first | lia | omega
            subst this
            rw [hky] at hk'; cases hk'
            exact .inr e'.symm
        have conv : ∀ {wt2 : Int → Option Int}, Dn ts n st M e (kn.set M.toNat (some e)) wt2 (fun x => (∃ j k, j < i ∧ ms[j]? = some k ∧ hd k = x) ∨ x = r) → Dn ts n st M e (kn.set M.toNat (some e)) wt2 (fun x => ∃ j k, j < i + 1 ∧ ms[j]? = some k ∧ hd k = x) := fun {wt2} N =>
          ⟨⟨N.dm.kd, N.dm.wk, N.dm.ord, fun q e' r' l' hq ha' => (N.dm.nb q e' r' l' hq ha').imp (fun z => ⟨z.1, fun y => z.2 (sub y)⟩) id, N.dm.st, N.dm.pd, N.dm.mx⟩, N.ln, N.bk, N.bd, N.bw⟩
        refine ⟨ya, _, rfl, SqT.of (s6 _ _ (ne_of hya (s5 _ _ hw4) (by intro z; cases z)) hya), rfl, _, _, rfl, _, _, rfl, rfl, ?_⟩
        obtain ⟨o, ho⟩ : ∃ o, (kn.set M.toNat (some e))[r.toNat]? = some o := ⟨_, List.getElem?_eq_getElem om⟩
        have hfnl : fnl (kn.set M.toNat (some e)) r = o := by
          unfold fnl
          rw [if_pos hadj.2.2.1, List.getD_eq_getElem?_getD, ho]; rfl
        refine ⟨_, rfl, _, rfl, kl, _, _, oV o, rfl, rfl, SqL.of hk6, atI_in hadj.2.2.1 (by rw [List.getElem?_map, ho]; rfl), rfl, _, rfl, ?_⟩
        rw [oV_non]
        cases o with
        | some f0 =>
          refine iteF ?_
          exact ⟨kvs', wt', _, _, _, rfl, s6, hw6, WW6, conv (N6.skip hfnl)⟩
        | none =>
          refine iteT ?_
          have hkM : (kn.set M.toNat (some e))[M.toNat]? = some (some e) := by
            rw [List.getElem?_set_self (by have := D.ln; (first | lia | omega))]
          refine ⟨_, rfl, _, rfl, kl, _, _, oV (some e), rfl, rfl, SqL.of hk6, atI_in hM0 (by rw [List.getElem?_map, hkM]; rfl), _, rfl, _, _, rfl, rfl, ?_⟩
          refine ⟨_, rfl, _, rfl, wd, rfl, .inl ⟨kvs', .inl hw6⟩, _, rfl, _, rfl, _, DGet.k (k := Sum.inl r) hw6, ?_⟩
          have hg : ((valV kvs' (Sum.inl r)).getD (V.int (e + c))) = V.int ((wt' r).getD (e + c)) := by
            rw [WW6.at_ r]
            cases wt' r <;> rfl
          rw [hg]
          refine ⟨_, _, rfl, ?_⟩
          have hwl := WW6.len om
          refine ⟨_, rfl, _, rfl, wd, _, rfl, DPut.k (k := Sum.inl r) hw6 (small_line om), ?_⟩
          exact ⟨_, _, _, _, _, rfl, fun b o' hb z => by rw [upd_ne hb]; exact s6 b o' hb z, upd_same, WW6.put hadj.2.2.1 hadj.2.2.2.1, conv (N6.wait G ha hfnl)⟩
end
inductive spBwr_r (vs : List V) (H : Hp) (Q : VK) : Prop
  | mk : ∀ (lh lt : Addr) (n : Int) (ts : List T3) (x y : Int) (kn1 kn2 : List (Option Int)), (vs = [.ref lh, .ref lt, .int y]) → (GW n ts) → (0 ≤ x) → (x < n) → (0 ≤ y) → (y < n) → (H lh = some (.tup (kn1.map oV))) → (H lt = some (.tup (kn2.map oV))) → (Lens ts n x kn1) → (Lens ts n y kn2) → (∀ (l : Addr) (xs : List Int) (H' : Hp), Same H H' → H' l = some (.tup (xs.map V.int)) → xs.Pairwise (· < ·) → (∀ p, p ∈ xs ↔ Btw ts x y p) → Q (.ref l) H') → spBwr_r vs H Q
noncomputable def spBwr : Sp := fun vs H Q _ => spBwr_r vs H Q
inductive spNbr_r (vs : List V) (H : Hp) (Q : VK) : Prop
  | mk : ∀ (wa lt : Addr) (n : Int) (ts : List T3) (x y : Int) (kn : List (Option Int)), (vs = [.ref wa, .int x, .ref lt]) → (WebAt H wa n ts) → (0 ≤ x) → (x < n) → (0 ≤ y) → (y < n) → (H lt = some (.tup (kn.map oV))) → (Lens ts n y kn) → (∀ (l : Addr) (xs : List Int) (H' : Hp), Same H H' → H' l = some (.tup (xs.map V.int)) → xs.Pairwise (· < ·) → (∀ p, p ∈ xs ↔ Nxt ts x y p) → Q (.ref l) H') → spNbr_r vs H Q
noncomputable def spNbr : Sp := fun vs H Q _ => spNbr_r vs H Q
theorem Lens_get {ts : List T3} {n s : Int} {kn : List (Option Int)} (h : Lens ts n s kn) {y : Int} (h0 : 0 ≤ y) (h1 : y < n) : (kn.map oV)[y.toNat]? = some (oV (fnl kn y)) := by
  have hl := h.ln
  have hlt : y.toNat < kn.length := by first | lia | omega
  rw [List.getElem?_map, List.getElem?_eq_getElem hlt]
  unfold fnl
  rw [if_pos h0, List.getD_eq_getElem?_getD, List.getElem?_eq_getElem hlt]
  rfl
theorem ints_succ (q : Nat) : lowTo (q + 1) = lowTo q ++ [(q : Int)] := by unfold lowTo; rw [List.range_succ, List.map_append]; rfl
theorem ints_len (q : Nat) : (lowTo q).length = q := by unfold lowTo; rw [List.length_map, List.length_range]
section
variable {P : Program} {w : World} {K : PySem.W.Frag} {mg : Str → Option Value} {base : Heap} {PT : Addr}
theorem scBwr : FnScope ["here", "there", "other", "reached"] ["here", "there", "other"] (defScope sBwr) := ⟨rfl, rfl, rfl, by decide +kernel, rfl, by decide +kernel, by decide +kernel⟩
theorem ok_bwr {f : Addr} {fd' : FuncData} (F : Fun K "between_rows" "between_rows" sBwr f fd') (mRange : mg "range" = none) (mTuple : mg "tuple" = none) (mLen : mg "len" = none) : FnOk P w K mg base CX0 1 f fd' ["here", "there", "other"] spBwr := by
  refine F.ok scBwr (fun vs H Q E h => ?_) (fun cdv A outer s H2 vs Q E hr h => ?_)
  · obtain ⟨lh, lt, n, ts, x, y, kn1, kn2, rfl, -⟩ := h
    rfl
  · obtain ⟨lh, lt, n, ts, x, y, kn1, kn2, rfl, G, hx0, hx1, hy0, hy1, hh2, hl2, L1, L2, k⟩ := h
    have hn24 := G.n24
    have hln := L1.ln
    refine ⟨_, pss_cons (ps_if (pt_cmpR op_isN (pe_ix ix_tup (pv 0) (pv 2) (fun _ _ => rfl)) pe_non (nomark _)) (pss_one (ps_ret (pe_tup pa_nil))) pss_nil)
      (pss_cons (ps_setC (i := 3) (own := ["place"]) (cn := ["here"]) (ci := [0]) scBwr.nd rfl (Or.inl rfl) rfl (csc rfl rfl) ⟨rfl, rfl, rfl, trivial⟩ rfl
        (pi_range1 rfl mRange (pa_cons (pe_callB call_len_seq (by rfl) mLen PySem.boot_len (pa_cons (pv 0) pa_nil)) pa_nil)) (fun _ _ _ _ => pg_name (i := 0) (nd_of rfl) rfl (Or.inl rfl))
        (fun _ _ _ _ => pts_one (pt_cmpR op_notN (pe_ix ix_tupC (pv 1) (pv 0) (fun _ _ => rfl)) pe_non (nomark _))) (fun _ _ _ _ => pv 0))
      (pss_one (ps_ret (pe_callTy call_tuple_of (by rfl) mTuple (by decide +kernel) (pa_cons
        (pe_comp (own := ["place"]) (cn := ["here", "there", "other"]) (ci := [0, 1, 2]) rfl (csc rfl rfl) ⟨rfl, rfl, rfl, rfl, rfl, rfl, rfl, rfl, rfl, trivial⟩ rfl
          (pi_list (pv 3)) (fun _ _ _ _ => pg_name (i := 0) (nd_of rfl) rfl (Or.inl rfl))
          (fun _ _ _ _ => pts_one (pt_cmpR op_eq (pe_op op_add (pe_ix ix_tupC (pv 1) (pv 0) (fun _ _ => rfl)) (pe_ix ix_tupC (pv 2) (pv 0) (fun _ _ => rfl))) (pe_ix ix_tupC (pv 1) (pv 3) (fun _ _ => rfl)) (nomark _)))
          (fun _ _ _ _ => pv 0)) pa_nil))))), ?_⟩
    have hy := L1.len y hy0 hy1
    refine ⟨_, rfl, _, rfl, lh, _, _, oV (fnl kn1 y), rfl, rfl, SqT.of hh2, atI_in hy0 (Lens_get L1 hy0 hy1), rfl, _, rfl, ?_⟩
    rw [oV_non]
    cases hd : fnl kn1 y with
    | none =>
      refine iteT ?_
      rw [hd] at hy
      refine ⟨Nat.zero_le _, fun l hl => k l [] _ (same_laid hl) upd_same List.Pairwise.nil fun p => ⟨fun z => by simp at z, fun ⟨a, b, _, _, z⟩ => absurd z.1 (hy _)⟩⟩
    | some d =>
      refine iteF ?_
      rw [hd] at hy
      have hyD : WM.IsD ts x y d := hy
      refine ⟨_, rfl, lh, _, rfl, .inr (SqT.of hh2), n, by rw [List.length_map, hln]; exact congrArg (fun z => [V.int z]) (Int.toNat_of_nonneg om), om, om, [.ref lh], rfl, fun D hD => ?_⟩
      refine comp_range (lo := 0) (n := n.toNat) (fun q ys H3 => C4 (q ≤ n.toNat) (ys = ((lowTo q).filter fun o => (fnl kn1 o).isSome).map V.int) (Same H2 H3) (H3 D = some (.lst ys))) ⟨Nat.zero_le _, rfl, same_laid hD, upd_same⟩ (fun q ys H3 h => ?_) (fun q ys H3 hq h => ?_) (fun ys H3 h => ?_)
      · obtain ⟨hq, rfl, -⟩ := h
        rw [List.length_map]
        refine Nat.lt_of_le_of_lt (List.length_filter_le _ _) (small_line ?_)
        rw [ints_len]; (first | lia | omega)
      · obtain ⟨_, rfl, s3, hD3⟩ := h
        rw [Int.zero_add]
        refine ⟨⟨rfl, rfl⟩, ?_⟩
        refine ⟨_, rfl, _, rfl, lh, _, _, oV (fnl kn1 q), rfl, rfl, SqT.of (s3 _ _ hh2), atI_in om (Lens_get L1 om om), rfl, _, rfl, ?_⟩
        rw [oV_non]
        cases e : fnl kn1 q with
        | none =>
          refine iteF ?_
          refine ⟨hq, ?_, s3, hD3⟩
          rw [ints_succ, List.filter_append, List.filter_cons_of_neg (by rw [e]; decide), List.filter_nil, List.append_nil]
        | some a =>
          refine iteT ?_
          refine ⟨_, rfl, hD3, hq, ?_, same_chg s3 hD, upd_same⟩
          rw [ints_succ, List.filter_append, List.filter_cons_of_pos (by rw [e]; rfl), List.filter_nil, List.map_append]
          rfl
      · obtain ⟨_, rfl, s3, hD3⟩ := h
        generalize hR : ((lowTo n.toNat).filter fun o => (fnl kn1 o).isSome) = R at hD3 ⊢
        have hRm : ∀ p, p ∈ R ↔ (0 ≤ p ∧ p < n) ∧ ∃ a, fnl kn1 p = some a := fun p => by
          rw [← hR, List.mem_filter, mem_ints, Option.isSome_iff_exists]
          constructor
          · rintro ⟨z1, z2⟩; exact ⟨om, z2⟩
          · rintro ⟨z1, z2⟩; exact ⟨om, z2⟩
        have hRr : R.Pairwise (· < ·) := by rw [← hR]; exact (ints_rise _).sublist List.filter_sublist
        have hRl : R.length ≤ 24 := by
          rw [← hR]
          exact Nat.le_trans (List.length_filter_le _ _) (by rw [ints_len]; (first | lia | omega))
        have both : ∀ p, p ∈ R → ∃ a b, fnl kn1 p = some a ∧ fnl kn2 p = some b ∧ WM.IsD ts x p a ∧ WM.IsD ts p y b := fun p hp => by
          obtain ⟨⟨h0, h1⟩, a, ha⟩ := (hRm p).mp hp
          have l1 := L1.len p h0 h1
          rw [ha] at l1
          obtain ⟨b, hb, -⟩ := Len.via (show WM.IsD ts x p a from l1) hyD (Len.symm (L2.len p h0 h1))
          have l2 := L2.len p h0 h1
          rw [hb] at l2
          exact ⟨a, b, ha, hb, l1, WM.IsD.symm l2⟩
        refine ⟨_, rfl, D, rfl, ⟨_, SqL.of hD3⟩, [.ref lh, .ref lt, .int y], rfl, fun D2 hD2 => ?_⟩
        have nDD : D ≠ D2 := ne_of_none hD3 hD2
        refine comp_list (a := D) (xs := R.map V.int) (fun i ys H4 => C3 (ys = ((R.take i).filter fun p => decide ((fnl kn1 p).getD 0 + (fnl kn2 p).getD 0 = d)).map V.int) (Same H3 H4) (H4 D2 = some (.lst ys))) ⟨rfl, same_laid hD2, upd_same⟩ (fun i ys H4 h => ?_) (fun i ys H4 h => ?_) (fun i v ys H4 hv h => ?_) (fun ys H4 h => ?_)
        · obtain ⟨_, s4, -⟩ := h
          exact SqL.of (s4 _ _ hD3)
        · obtain ⟨rfl, -⟩ := h
          rw [List.length_map]
          refine Nat.lt_of_le_of_lt (List.length_filter_le _ _) (small_line ?_)
          rw [List.length_take]; (first | lia | omega)
        · obtain ⟨rfl, s4, hD4⟩ := h
          obtain ⟨p, hp, rfl⟩ : ∃ p, R[i]? = some p ∧ V.int p = v := by
            rw [List.getElem?_map] at hv
            cases e : R[i]? with
            | none => rw [e] at hv; cases hv
            | some p => rw [e] at hv; exact ⟨p, rfl, Option.some.inj hv⟩
          have hpR := List.mem_of_getElem? hp
          obtain ⟨⟨h0, h1⟩, -⟩ := (hRm p).mp hpR
          obtain ⟨a, b, ha, hb, _, -⟩ := both p hpR
          have hlh4 : H4 lh = some (.tup (kn1.map oV)) := s4 _ _ (s3 _ _ hh2)
          have hlt4 : H4 lt = some (.tup (kn2.map oV)) := s4 _ _ (s3 _ _ hl2)
          refine ⟨⟨rfl, rfl⟩, ?_⟩
          refine ⟨_, rfl, _, rfl, lh, _, _, .int a, rfl, rfl, SqT.of hlh4, atI_in h0 (by rw [Lens_get L1 h0 h1, ha]; rfl), ?_⟩
          refine ⟨_, rfl, _, rfl, lt, _, _, .int b, rfl, rfl, SqT.of hlt4, atI_in h0 (by rw [Lens_get L2 h0 h1, hb]; rfl), _, _, rfl, rfl, ?_⟩
          refine ⟨_, rfl, _, rfl, lh, _, _, .int d, rfl, rfl, SqT.of hlh4, atI_in hy0 (by rw [Lens_get L1 hy0 hy1, hd]; rfl), rfl, _, rfl, ?_⟩
          rw [dec_int']
          have etk : (R.take (i + 1)).filter (fun p => decide ((fnl kn1 p).getD 0 + (fnl kn2 p).getD 0 = d)) = (R.take i).filter (fun p => decide ((fnl kn1 p).getD 0 + (fnl kn2 p).getD 0 = d)) ++ (if a + b = d then [p] else []) := by
            rw [List.take_add_one, hp, List.filter_append]
            show _ ++ List.filter _ [p] = _
            rw [List.filter_cons, ha, hb]
            by_cases c : a + b = d
            · rw [if_pos (by simpa using c), if_pos c]; rfl
            · rw [if_neg (by simpa using c), if_neg c]; rfl
          refine ite2 (fun c => ?_) (fun c => ?_)
          · have c' := of_decide_eq_true c
            refine ⟨_, rfl, hD4, ?_, same_chg s4 hD2, upd_same⟩
            rw [etk, if_pos c', List.map_append]; rfl
          · have c' : ¬ a + b = d := fun z => c (decide_eq_true z)
            refine ⟨?_, s4, hD4⟩
            rw [etk, if_neg c', List.append_nil]
        · obtain ⟨rfl, s4, hD4⟩ := h
          rw [List.length_map, List.take_of_length_le (Nat.le_refl _)] at hD4
          refine ⟨D2, _, rfl, .inl ⟨SqL.of hD4, fun q hq => ?_⟩⟩
          refine k q _ _ ((s3.trans s4).trans (same_laid hq)) upd_same (hRr.sublist List.filter_sublist) fun p => ?_
          rw [List.mem_filter]
          constructor
          · rintro ⟨hp, c⟩
            obtain ⟨a, b, ha, hb, ia, ib⟩ := both p hp
            have c' := of_decide_eq_true c
            rw [ha, hb] at c'
            exact ⟨a, b, ia, ib, by rw [show a + b = d from c']; exact hyD⟩
          · rintro ⟨a, b, ia, ib, iab⟩
            have hp := ia.1.in_ G hx0 hx1
            have l1 := Len.uniq (L1.len p hp.1 hp.2) (show Len ts x p (some a) from ia)
            have l2 := Len.uniq (L2.len p hp.1 hp.2) (show Len ts y p (some b) from WM.IsD.symm ib)
            refine ⟨(hRm p).mpr ⟨hp, a, l1⟩, decide_eq_true ?_⟩
            rw [l1, l2]
            exact WM.IsD.uniq iab hyD
theorem scNbr : FnScope ["web", "one", "there"] ["web", "one", "there"] (defScope sNbr) := ⟨rfl, rfl, rfl, by decide +kernel, rfl, by decide +kernel, by decide +kernel⟩
noncomputable def sl1 (k : List Int) : Int := k.getD 1 0
theorem ok_nbr {f fT : Addr} {fd' fdT : FuncData} (F : Fun K "next_by_row" "next_by_row" sNbr f fd')
    (FT : Fun K "ties_at" "ties_at" sTies fT fdT) (bT : Binds K fdT ["web", "place"] []) (mT : mg "ties_at" = some (.ref fT)) (mSorted : mg "sorted" = none) (mTuple : mg "tuple" = none) : FnOk P w K mg base CX0 3 f fd' ["web", "one", "there"] spNbr := by
  have GT : FnOk P w K mg base CX0 2 fT fdT ["web", "place"] spTies := (ok_ties FT mSorted).mono (by decide)
  refine F.ok scNbr (fun vs H Q E h => ?_) (fun cdv A outer s H1 vs Q E hr h => ?_)
  · obtain ⟨wa, lt, n, ts, x, y, kn, rfl, -⟩ := h
    rfl
  · obtain ⟨wa, lt, n, ts, x, y, kn, rfl, W, hx0, hx1, hy0, hy1, hl1, L, k⟩ := h
    obtain ⟨ta, tys, hwa, _, _, G⟩ := id W
    refine ⟨_, pss_cons (ps_if (pt_cmpR op_isN (pe_ix ix_tup (pv 2) (pv 1) (fun _ _ => rfl)) pe_non (nomark _)) (pss_one (ps_ret (pe_tup pa_nil))) pss_nil)
      (pss_one (ps_ret (pe_callTy call_tuple_of (by rfl) mTuple (by decide +kernel) (pa_cons
        (pe_comp (own := ["place", "long"]) (cn := ["there", "one"]) (ci := [2, 1]) rfl (csc rfl rfl) ⟨rfl, rfl, rfl, rfl, rfl, rfl, trivial⟩ rfl
          (pi_list (pe_call GT hr rfl mT FT.kp bT .nil pass0 (pa_cons (pv 0) (pa_cons (pv 1) pa_nil))))
          (fun _ _ _ _ => pg_tupC (n := 2) rfl (pgs_cons (pg_name (i := 0) (nd_of rfl) rfl (Or.inl rfl)) (pgs_cons (pg_name (i := 1) (nd_of rfl) rfl (Or.inl rfl)) pgs_nil)))
          (fun _ _ _ _ => pts_one (pt_cmpR op_eq (pe_op op_add (pv 1) (pe_ix ix_tupC (pv 2) (pv 0) (fun _ _ => rfl))) (pe_ix ix_tupC (pv 2) (pv 3) (fun _ _ => rfl)) (nomark _)))
          (fun _ _ _ _ => pv 0)) pa_nil)))), ?_⟩
    have hx := L.len x hx0 hx1
    refine ⟨_, rfl, _, rfl, lt, _, _, oV (fnl kn x), rfl, rfl, SqT.of hl1, atI_in hx0 (Lens_get L hx0 hx1), rfl, _, rfl, ?_⟩
    rw [oV_non]
    cases hd : fnl kn x with
    | none =>
      refine iteT ?_
      rw [hd] at hx
      refine ⟨Nat.zero_le _, fun l hl => k l [] _ (same_laid hl) upd_same List.Pairwise.nil fun p => ⟨fun z => by simp at z, fun ⟨a, b, _, _, z⟩ => absurd z.1.symm (hx _)⟩⟩
    | some d =>
      refine iteF ?_
      rw [hd] at hx
      have hxD : WM.IsD ts x y d := WM.IsD.symm hx
      refine ⟨_, rfl, _, rfl, wa, n, ts, x, rfl, W, fun l zs ms H2 s2 hl0 hl2 TT hp hrs => ?_⟩
      have hlz := TT.length
      have hlt2 : H2 lt = some (.tup (kn.map oV)) := s2 _ _ hl1
      have hlm : ms.length < 64 := by
        have e2 := fd_len (n := n) x (ts := ts) fun t ht => (G.rng t ht).2.1
        have := G.len
        rw [hp.length_eq]; (first | lia | omega)
      have near : ∀ k, k ∈ ms → ∃ z c b, k = [z, c] ∧ Adj ts x z c ∧ fnl kn z = some b ∧ WM.IsD ts z y b := fun k hk => by
        obtain ⟨z, c, e, ha⟩ := mem_fd.mp (hp.mem_iff.mp hk)
        have hadj := G.adj ha
        have lz := L.len z hadj.2.2.1 hadj.2.2.2.1
        cases hz : fnl kn z with
        | none => rw [hz] at lz; exact absurd (hx.1.snoc ha) (lz _)
        | some b => rw [hz] at lz; exact ⟨z, c, b, e, ha, hz, WM.IsD.symm lz⟩
      refine ⟨l, rfl, ⟨_, SqL.of hl2⟩, [.ref lt, .int x], rfl, fun D hD => ?_⟩
      have nlD : l ≠ D := ne_of_none hl2 hD
      refine comp_list (a := l) (xs := zs) (fun i ys H3 => ys = (((ms.take i).filter fun k => decide (sl1 k + (fnl kn (WM.hd k)).getD 0 = d)).map WM.hd).map V.int ∧ H3 = upd H2 D (.lst ys)) ⟨rfl, rfl⟩ (fun i ys H3 h => ?_) (fun i ys H3 h => ?_) (fun i v ys H3 hv h => ?_) (fun ys H3 h => ?_)
      · obtain ⟨_, rfl⟩ := h
        exact SqL.of (by rw [upd_ne nlD]; exact hl2)
      · obtain ⟨rfl, -⟩ := h
        rw [List.length_map, List.length_map]
        refine Nat.lt_of_le_of_lt (List.length_filter_le _ _) (small_line ?_)
        rw [List.length_take]; (first | lia | omega)
      · obtain ⟨rfl, rfl⟩ := h
        obtain ⟨ya, ky, rfl, hky, hya, -⟩ := TT.get hv
        obtain ⟨z, c, b, rfl, ha, hb, ib⟩ := near ky (List.mem_of_getElem? hky)
        have hadj := G.adj ha
        refine ⟨ya, _, rfl, SqT.of (by rw [upd_ne (ne_of_none hya hD)]; exact hya), rfl, _, _, rfl, _, _, rfl, rfl, ⟨rfl, rfl⟩, ?_⟩
        have hltD : (upd H2 D (.lst ((((ms.take i).filter fun k => decide (sl1 k + (fnl kn (WM.hd k)).getD 0 = d)).map WM.hd).map V.int))) lt = some (.tup (kn.map oV)) := by rw [upd_ne (ne_of_none hlt2 hD)]; exact hlt2
        refine ⟨_, rfl, _, rfl, _, rfl, lt, _, _, .int b, rfl, rfl, SqT.of hltD, atI_in hadj.2.2.1 (by rw [Lens_get L hadj.2.2.1 hadj.2.2.2.1, hb]; rfl), _, _, rfl, rfl, ?_⟩
        refine ⟨_, rfl, _, rfl, lt, _, _, .int d, rfl, rfl, SqT.of hltD, atI_in hx0 (by rw [Lens_get L hx0 hx1, hd]; rfl), rfl, _, rfl, ?_⟩
        rw [dec_int']
        have etk : (ms.take (i + 1)).filter (fun k => decide (sl1 k + (fnl kn (WM.hd k)).getD 0 = d)) = (ms.take i).filter (fun k => decide (sl1 k + (fnl kn (WM.hd k)).getD 0 = d)) ++ (if c + b = d then [[z, c]] else []) := by
          rw [List.take_add_one, hky, List.filter_append]
          show _ ++ List.filter _ [[z, c]] = _
          rw [List.filter_cons]
          have e1 : decide (sl1 [z, c] + (fnl kn (WM.hd [z, c])).getD 0 = d) = decide (c + b = d) := by
            show decide (c + (fnl kn z).getD 0 = d) = _
            rw [hb]; rfl
          rw [e1]
          by_cases cc : c + b = d
          · rw [if_pos (by simpa using cc), if_pos cc]; rfl
          · rw [if_neg (by simpa using cc), if_neg cc]; rfl
        refine ite2 (fun cc => ?_) (fun cc => ?_)
        · have c' := of_decide_eq_true cc
          refine ⟨_, rfl, upd_same, ?_, upd_upd⟩
          rw [etk, if_pos c', List.map_append, List.map_append]; rfl
        · have c' : ¬ c + b = d := fun q => cc (decide_eq_true q)
          refine ⟨?_, rfl⟩
          rw [etk, if_neg c', List.append_nil]
      · obtain ⟨rfl, rfl⟩ := h
        refine ⟨D, _, rfl, .inl ⟨SqL.of upd_same, fun q hq => ?_⟩⟩
        rw [hlz, List.take_of_length_le (Nat.le_refl _)] at hq ⊢
        have s4 := (same_laid (o := .lst ((((ms.filter fun k => decide (sl1 k + (fnl kn (WM.hd k)).getD 0 = d)).map WM.hd).map V.int))) hD).trans (same_laid (o := .tup ((((ms.filter fun k => decide (sl1 k + (fnl kn (WM.hd k)).getD 0 = d)).map WM.hd).map V.int))) hq)
        have hk : ∀ k ∈ ms, ∃ y l, k = [y, l] := fun k hk => by
          obtain ⟨z, c, b, e, -⟩ := near k hk
          exact ⟨z, c, e⟩
        have hrise := heads_rise hrs hk ((hp.map WM.hd).nodup_iff.mpr (fd_heads G x))
        refine k q _ _ (s2.trans s4) upd_same (hrise.sublist (List.filter_sublist.map _)) fun p => ?_
        rw [List.mem_map]
        constructor
        · rintro ⟨k0, hk0, rfl⟩
          obtain ⟨hm, c⟩ := List.mem_filter.mp hk0
          obtain ⟨z, c0, b, rfl, ha, hb, ib⟩ := near k0 hm
          have c' := of_decide_eq_true c
          have c2 : c0 + b = d := by
            have : c0 + (fnl kn z).getD 0 = d := c'
            rw [hb] at this; exact this
          exact ⟨c0, b, ha, ib, by rw [c2]; exact hxD⟩
        · rintro ⟨c0, b, ha, ib, iab⟩
          have hm : [p, c0] ∈ ms := hp.mem_iff.mpr (mem_fd.mpr ⟨p, c0, rfl, ha⟩)
          refine ⟨[p, c0], List.mem_filter.mpr ⟨hm, decide_eq_true ?_⟩, rfl⟩
          have hadj := G.adj ha
          have lp := Len.uniq (L.len p hadj.2.2.1 hadj.2.2.2.1) (show Len ts y p (some b) from WM.IsD.symm ib)
          show c0 + (fnl kn p).getD 0 = d
          rw [lp]
          exact WM.IsD.uniq iab hxD
end
noncomputable def RowsAt (H : Hp) (rs : List Addr) (M : List (List (Option Int))) : Prop := rs.length = M.length ∧ ∀ (i : Nat) (r : Addr) (row : List (Option Int)), rs[i]? = some r → M[i]? = some row → H r = some (.tup (row.map oV))
theorem RowsAt.smT {H H' : Hp} {rs : List Addr} {M : List (List (Option Int))} (h : RowsAt H rs M) (k : SmT H H') : RowsAt H' rs M := ⟨h.1, fun i r row a b => k.get (h.2 i r row a b) (by intro ps z; cases z)⟩
inductive spLens_r (PT : Addr) (vs : List V) (H : Hp) (Q : VK) : Prop
  | mk : ∀ (wa : Addr) (n : Int) (ts : List T3), (vs = [.ref wa]) → (WebAt H wa n ts) → (Tb H PT) → (∀ (l : Addr) (rs : List Addr) (M : List (List (Option Int))) (H' : Hp), SmT H H' → Tb H' PT → H' l = some (.tup (rs.map V.ref)) → RowsAt H' rs M → Rows ts n M → Q (.ref l) H') → spLens_r PT vs H Q
noncomputable def spLens (PT : Addr) : Sp := fun vs H Q _ => spLens_r PT vs H Q
section
variable {P : Program} {w : World} {K : PySem.W.Frag} {mg : Str → Option Value} {base : Heap} {PT : Addr}
theorem scLens : FnScope ["web"] ["web"] (defScope sLens) := ⟨rfl, rfl, rfl, by decide +kernel, rfl, by decide +kernel, by decide +kernel⟩
theorem ok_lens {f fF : Addr} {fd' fdF : FuncData} (F : Fun K "lengths" "lengths" sLens f fd') (FF : Fun K "lengths_from" "lengths_from" sFrom fF fdF) (bF : Binds K fdF ["web", "start"] []) (mF : mg "lengths_from" = some (.ref fF)) (GF : FnOk P w K mg base CX0 3 fF fdF ["web", "start"] (spFrom PT))
    (mRange : mg "range" = none) (mTuple : mg "tuple" = none) : FnOk P w K mg base CX0 4 f fd' ["web"] (spLens PT) := by
  refine F.ok scLens (fun vs H Q E h => ?_) (fun cdv A outer s H vs Q E hr h => ?_)
  · obtain ⟨wa, n, ts, rfl, -⟩ := h
    rfl
  · obtain ⟨wa, n, ts, rfl, W, T, k⟩ := h
    obtain ⟨ta, tys, hwa, _, _, G⟩ := id W
    have hn24 := G.n24
    have hn1 := G.n1
    refine ⟨_, pss_one (ps_ret (pe_callTy call_tuple_of (by rfl) mTuple (by decide +kernel) (pa_cons
      (pe_comp (own := ["place"]) (cn := ["web"]) (ci := [0]) rfl (csc rfl rfl) ⟨rfl, rfl, rfl, trivial⟩ rfl
        (pi_range1 rfl mRange (pa_cons (pe_ix ix_tup (pv 0) pe_int (fun _ _ => rfl)) pa_nil)) (fun _ _ _ _ => pg_name (i := 0) (nd_of rfl) rfl (Or.inl rfl)) (fun _ _ _ _ => pts_nil)
        (fun _ _ _ _ => pe_call GF hr rfl mF FF.kp bF .nil pass0 (pa_cons (pv 1) (pa_cons (pv 0) pa_nil)))) pa_nil))), ?_⟩
    refine ⟨_, rfl, wa, _, _, _, rfl, rfl, SqT.of hwa, rfl, n, rfl, om, om, [.ref wa], rfl, fun D hD => ?_⟩
    refine comp_range (lo := 0) (n := n.toNat) (fun q ys H1 => q ≤ n.toNat ∧ Ex2 fun (rs : List Addr) (M : List (List (Option Int))) => ys = rs.map V.ref ∧ rs.length = q ∧ RowsAt H1 rs M ∧ (∀ x : Nat, x < q → Lens ts n x (M.getD x [])) ∧ SmT H H1 ∧ Tb H1 PT ∧ H1 D = some (.lst ys))
      ⟨Nat.zero_le _, [], [], rfl, rfl, ⟨rfl, fun i r row h => by simp at h⟩, fun x hx => absurd hx (Nat.not_lt_zero _), SmT.of (same_laid hD), T.same (same_laid hD), upd_same⟩ (fun q ys H1 h => ?_) (fun q ys H1 hq h => ?_) (fun ys H1 h => ?_)
    · obtain ⟨hq, rs, M, rfl, hl, -⟩ := h
      rw [List.length_map, hl]
      exact small_line om
    · obtain ⟨_, rs, M, rfl, hl, R, L, sm, T1, hD1⟩ := h
      rw [Int.zero_add]
      refine ⟨⟨rfl, rfl⟩, ?_⟩
      refine tyes ?_
      refine ⟨_, rfl, _, rfl, wa, n, ts, q, rfl, W.smT sm, om, om, T1, fun l kn H2 sm2 T2 hl2 L2 => ?_⟩
      have hD2 : H2 D = some (.lst (rs.map V.ref)) := sm2.get hD1 (by intro ps z; cases z)
      refine ⟨hD2, hq, rs ++ [l], M ++ [kn], by rw [List.map_append]; rfl, by rw [List.length_append, hl]; rfl, ⟨by rw [List.length_append, List.length_append, R.1]; rfl, fun i r row h1 h2 => ?_⟩, fun x hx => ?_, (sm.trans sm2).chg hD, T2.chg hD2, upd_same⟩
      · have key : H2 r = some (.tup (row.map oV)) := by
          by_cases hi : i < rs.length
          · rw [List.getElem?_append_left hi] at h1
            rw [List.getElem?_append_left (by rw [← R.1]; exact hi)] at h2
            exact sm2.get (R.2 i r row h1 h2) (by intro ps z; cases z)
          · rw [List.getElem?_append_right om] at h1
            rw [List.getElem?_append_right (by rw [← R.1]; (first | lia | omega)), ← R.1] at h2
            cases hz : i - rs.length with
            | zero =>
              rw [hz] at h1 h2
              have e1 : l = r := by simpa using h1
              have e2 : kn = row := by simpa using h2
              subst e1 e2
              exact hl2
            | succ k => rw [hz] at h1; simp at h1
        rw [upd_ne (ne_of key hD2 (by intro z; cases z))]
        exact key
      · by_cases hx' : x < q
        · rw [List.getD_eq_getElem?_getD, List.getElem?_append_left (by rw [← R.1, hl]; exact hx'), ← List.getD_eq_getElem?_getD]
          exact L x hx'
        · have e : x = q := by first | lia | omega
          subst e
          rw [List.getD_eq_getElem?_getD, List.getElem?_append_right (by rw [← R.1, hl]; exact Nat.le_refl _), ← R.1, hl]
          simpa using L2
    · obtain ⟨_, rs, M, rfl, hl, R, L, sm, T1, hD1⟩ := h
      refine ⟨D, _, rfl, .inl ⟨SqL.of hD1, fun q hq => ?_⟩⟩
      refine k q rs M _ (sm.trans (SmT.of (same_laid hq))) (T1.same (same_laid hq)) upd_same (R.smT (SmT.of (same_laid hq))) ⟨by rw [← R.1, hl], fun x hx hx' => ?_⟩
      have := L x.toNat om
      rw [show ((x.toNat : Nat) : Int) = x by first | lia | omega] at this
      exact this
end
theorem ifT {c : Bool} {p q : Prop} (h : c = true) (hp : p) : (if c = true then p else q) := by rw [if_pos h]; exact hp
theorem ifF {c : Bool} {p q : Prop} (h : c = false) (hq : q) : (if c = true then p else q) := by rw [if_neg (by simp [h])]; exact hq
theorem oV_some_ne (a : Int) : decide (oV (some a) = V.non) = false := decide_eq_false (by intro z; cases z)
inductive spAdd_r (vs : List V) (H : Hp) (Q : VK) : Prop
  | mk : ∀ a b : Option Int, (vs = [oV a, oV b]) → (Q (oV (oadd a b)) H) → spAdd_r vs H Q
noncomputable def spAdd : Sp := fun vs H Q _ => spAdd_r vs H Q
inductive spLes_r (vs : List V) (H : Hp) (Q : VK) : Prop
  | mk : ∀ a b : Option Int, (vs = [oV a, oV b]) → (Q (oV (oles a b)) H) → spLes_r vs H Q
noncomputable def spLes : Sp := fun vs H Q _ => spLes_r vs H Q
noncomputable def LRows (H : Hp) (rs : List Addr) (M : List (List (Option Int))) : Prop := rs.length = M.length ∧ rs.Nodup ∧ ∀ (i : Nat) (r : Addr) (row : List (Option Int)), rs[i]? = some r → M[i]? = some row → H r = some (.lst (row.map oV))
theorem LRows.keep {H H' : Hp} {rs : List Addr} {M : List (List (Option Int))} (h : LRows H rs M) (k : ∀ b ys, H b = some (.lst ys) → b ∈ rs → H' b = some (.lst ys)) : LRows H' rs M := ⟨h.1, h.2.1, fun i r row a b => k r _ (h.2.2 i r row a b) (List.mem_of_getElem? a)⟩
theorem LRows.get {H : Hp} {rs : List Addr} {M : List (List (Option Int))} {n a : Int} (h : LRows H rs M) (S : Sqm n M) (ha : 0 ≤ a) (ha' : a < n) : ∃ r row, rs[a.toNat]? = some r ∧ M[a.toNat]? = some row ∧ M.getD a.toNat [] = row ∧ row.length = n.toNat ∧ H r = some (.lst (row.map oV)) ∧ ∀ y, fnl row y = mat M a y := by
  obtain ⟨row, h1, h2, h3⟩ := S.row ha ha'
  have hl : a.toNat < rs.length := by rw [h.1, S.ln]; (first | lia | omega)
  exact ⟨rs[a.toNat], row, List.getElem?_eq_getElem hl, h1, h2, h3, h.2.2 _ _ _ (List.getElem?_eq_getElem hl) h1, fun y => by unfold mat; rw [if_pos ha, h2]⟩
theorem LRows.set {H : Hp} {rs : List Addr} {M : List (List (Option Int))} {n a b : Int} {v : Option Int} {r : Addr} {row : List (Option Int)} (h : LRows H rs M) (S : Sqm n M) (ha : 0 ≤ a) (ha' : a < n) (h1 : rs[a.toNat]? = some r) (h2 : M[a.toNat]? = some row) :
    LRows (upd H r (.lst ((row.map oV).set b.toNat (oV v)))) rs (setm M a b v) := by
  refine ⟨by unfold setm; rw [List.length_set]; exact h.1, h.2.1, fun i r' row' a1 a2 => ?_⟩
  unfold setm at a2
  rw [List.getElem?_set] at a2
  have hlt : a.toNat < M.length := (List.getElem?_eq_some_iff.mp h2).1
  by_cases e : a.toNat = i
  · subst e
    rw [if_pos rfl, if_pos hlt] at a2
    rw [h1] at a1
    cases a1
    cases a2
    rw [upd_same, List.getD_eq_getElem?_getD, h2, Option.getD_some, List.map_set]
  · rw [if_neg e] at a2
    have hne : r' ≠ r := fun z => by
      subst z
      exact e ((List.getElem?_inj ((List.getElem?_eq_some_iff.mp h1).1) h.2.1).mp (h1.trans a1.symm))
    rw [upd_ne hne]
    exact h.2.2 i r' row' a1 a2
theorem row_at {row : List (Option Int)} {n y : Int} (hl : row.length = n.toNat) (h0 : 0 ≤ y) (h1 : y < n) : atI (row.map oV) y = some (oV (fnl row y)) := by
  have hlt : y.toNat < row.length := by first | lia | omega
  refine atI_in h0 ?_
  rw [List.getElem?_map, List.getElem?_eq_getElem hlt]
  unfold fnl
  rw [if_pos h0, List.getD_eq_getElem?_getD, List.getElem?_eq_getElem hlt]; rfl
noncomputable def rowI (a : Int) (j : Nat) : List (Option Int) := (List.range j).map fun (b : Nat) => if a = (b : Int) then some 0 else none
theorem rowI_succ (a : Int) (j : Nat) : rowI a (j + 1) = rowI a j ++ [if a = (j : Int) then some 0 else none] := by unfold rowI; rw [List.range_succ, List.map_append]; rfl
theorem rowI_len (a : Int) (j : Nat) : (rowI a j).length = j := by unfold rowI; rw [List.length_map, List.length_range]
theorem rowI_get {a : Int} {j : Nat} {y : Int} (h0 : 0 ≤ y) (h1 : y < j) : fnl (rowI a j) y = if a = y then some 0 else none := by
  unfold fnl rowI
  rw [if_pos h0, List.getD_eq_getElem?_getD, List.getElem?_map, List.getElem?_range om]
  show (if a = ((y.toNat : Nat) : Int) then some 0 else none) = _
  rw [show ((y.toNat : Nat) : Int) = y by first | lia | omega]
inductive spFar_r (vs : List V) (H : Hp) (Q : VK) : Prop
  | mk : ∀ (wa : Addr) (n : Int) (ts : List T3), (vs = [.ref wa]) → (WebAt H wa n ts) → (∀ (fl : Addr) (rs : List Addr) (M : List (List (Option Int))) (H' : Hp), Same H H' → H' fl = some (.lst (rs.map V.ref)) → LRows H' rs M → Rows ts n M → Q (.ref fl) H') → spFar_r vs H Q
noncomputable def spFar : Sp := fun vs H Q _ => spFar_r vs H Q
section
variable {P : Program} {w : World} {K : PySem.W.Frag} {mg : Str → Option Value} {base : Heap}
theorem scAdd : FnScope ["_law_one", "_law_other"] ["_law_one", "_law_other"] (defScope sAdd) := ⟨rfl, rfl, rfl, by decide +kernel, rfl, by decide +kernel, by decide +kernel⟩
theorem ok_add {f : Addr} {fd' : FuncData} (F : Fun K "_law_added" "_law_added" sAdd f fd') : FnOk P w K mg base CX0 1 f fd' ["_law_one", "_law_other"] spAdd := by
  refine F.ok scAdd (fun vs H Q E h => ?_) (fun cdv A outer s H vs Q E hr h => ?_)
  · obtain ⟨a, b, rfl, -⟩ := h
    rfl
  · obtain ⟨a, b, rfl, k⟩ := h
    refine ⟨_, pss_one (ps_ret (pe_ifExp (PW.pt (pw_or (pt_cmpR op_isN (pv 0) pe_non (nomark _)) (pw_or1 (pt_cmpR op_isN (pv 1) pe_non (nomark _))))) pe_non (pe_op op_add (pv 0) (pv 1)))), ?_⟩
    cases a with
    | none => exact ⟨_, rfl, rfl, _, rfl, ifT (decide_eq_true rfl) (ifT rfl k)⟩
    | some a =>
      refine ⟨_, rfl, rfl, _, rfl, ifF (oV_some_ne a) ?_⟩
      cases b with
      | none => exact ⟨_, rfl, rfl, _, rfl, ifT (decide_eq_true rfl) k⟩
      | some b => exact ⟨_, rfl, rfl, _, rfl, ifF (oV_some_ne b) ⟨_, rfl, _, rfl, a, b, rfl, rfl, k⟩⟩
theorem scLes : FnScope ["_law_one", "_law_other"] ["_law_one", "_law_other"] (defScope sLes) := ⟨rfl, rfl, rfl, by decide +kernel, rfl, by decide +kernel, by decide +kernel⟩
theorem ok_les {f : Addr} {fd' : FuncData} (F : Fun K "_law_lesser" "_law_lesser" sLes f fd') (mMin : mg "min" = none) : FnOk P w K mg base CX0 1 f fd' ["_law_one", "_law_other"] spLes := by
  refine F.ok scLes (fun vs H Q E h => ?_) (fun cdv A outer s H vs Q E hr h => ?_)
  · obtain ⟨a, b, rfl, -⟩ := h
    rfl
  · obtain ⟨a, b, rfl, k⟩ := h
    refine ⟨_, pss_cons (ps_if (PW.pt (pw_or (pt_cmpR op_isN (pv 0) pe_non (nomark _)) (pw_or1 (pt_cmpR op_isN (pv 1) pe_non (nomark _))))) (pss_one (ps_ret (pe_ifExp (pt_cmpR op_isN (pv 0) pe_non (nomark _)) (pv 1) (pv 0)))) pss_nil)
      (pss_one (ps_ret (pe_callB (call_min2 rfl) (by rfl) mMin (by decide +kernel) (pa_cons (pv 0) (pa_cons (pv 1) pa_nil))))), ?_⟩
    cases a with
    | none => exact ⟨_, rfl, rfl, _, rfl, ifT (decide_eq_true rfl) (ifT rfl ⟨_, rfl, rfl, _, rfl, ifT (decide_eq_true rfl) ⟨_, rfl, k⟩⟩)⟩
    | some a =>
      refine ⟨_, rfl, rfl, _, rfl, ifF (oV_some_ne a) ?_⟩
      cases b with
      | none => exact ⟨_, rfl, rfl, _, rfl, ifT (decide_eq_true rfl) ⟨_, rfl, rfl, _, rfl, ifF (oV_some_ne a) ⟨_, rfl, k⟩⟩⟩
      | some b => exact ⟨_, rfl, rfl, _, rfl, ifF (oV_some_ne b) ⟨_, rfl, _, rfl, a, b, rfl, k⟩⟩
theorem scFar : FnScope ["_law_web_here", "_law_n_here", "_law_ties", "_law_far_here", "_law_a", "_law_b", "_law_long", "_law_k", "_law_way"] ["_law_web_here"] (defScope sFar) := ⟨rfl, rfl, rfl, by decide +kernel, rfl, by decide +kernel, by decide +kernel⟩
theorem ok_far {f fA fL : Addr} {fd' fdA fdL : FuncData} (F : Fun K "_law_far" "_law_far" sFar f fd') (FA : Fun K "_law_added" "_law_added" sAdd fA fdA) (bA : Binds K fdA ["_law_one", "_law_other"] []) (mA : mg "_law_added" = some (.ref fA))
    (FL : Fun K "_law_lesser" "_law_lesser" sLes fL fdL) (bL : Binds K fdL ["_law_one", "_law_other"] []) (mL : mg "_law_lesser" = some (.ref fL)) (mRange : mg "range" = none) (mMin : mg "min" = none) : FnOk P w K mg base CX0 2 f fd' ["_law_web_here"] spFar := by
  have GA : FnOk P w K mg base CX0 1 fA fdA ["_law_one", "_law_other"] spAdd := ok_add FA
  have GL : FnOk P w K mg base CX0 1 fL fdL ["_law_one", "_law_other"] spLes := ok_les FL mMin
  refine F.ok scFar (fun vs H Q E h => ?_) (fun cdv A outer s H vs Q E hr h => ?_)
  · obtain ⟨wa, n, ts, rfl, -⟩ := h
    rfl
  · obtain ⟨wa, n, ts, rfl, W, k⟩ := h
    obtain ⟨ta, tys, hwa, hta, TA, G⟩ := id W
    have hn1 := G.n1
    have hn24 := G.n24
    refine ⟨_, pss_cons (ps_asg (pv 0) (pg_tup rfl (pgs_cons (pg_name (i := 1) scFar.nd rfl (Or.inr rfl)) (pgs_cons (pg_name (i := 2) scFar.nd rfl (Or.inl rfl)) pgs_nil))))
      (pss_cons (ps_setC1 (yc := "_law_a") (i := 3) (own := ["_law_a"]) (cn := ["_law_n_here"]) (ci := [1]) scFar.nd rfl (Or.inl rfl) rfl (csc1 rfl (fun _ _ => rfl) rfl rfl) ⟨rfl, rfl, rfl, trivial⟩ rfl
        (pi_range1 rfl mRange (pa_cons (pv 1) pa_nil)) (fun _ _ _ _ => pg_name (i := 0) (nd_of rfl) rfl (Or.inr rfl)) (fun _ _ _ _ => pts_nil)
        (fun _ _ _ _ => pe_comp (own := ["_law_b"]) (cn := ["_law_a"]) (ci := [0]) rfl (csc rfl rfl) ⟨rfl, rfl, rfl, trivial⟩ rfl
          (pi_range1 rfl mRange (pa_cons (pv 1) pa_nil)) (fun _ _ _ _ => pg_name (i := 0) (nd_of rfl) rfl (Or.inl rfl)) (fun _ _ _ _ => pts_nil)
          (fun _ _ _ _ => pe_ifExp (pt_cmpR op_eq (pv 1) (pv 0) (nomark _)) pe_int pe_non)))
      (pss_cons (ps_for PassesOwn.never rfl (pi_tup (pv 2)) (pg_tup rfl (pgs_cons (pg_name (i := 4) scFar.nd rfl (Or.inl rfl)) (pgs_cons (pg_name (i := 5) scFar.nd rfl (Or.inl rfl)) (pgs_cons (pg_name (i := 6) scFar.nd rfl (Or.inl rfl)) pgs_nil))))
        (pss_cons (ps_asg (pv 6) (pg_sub (pe_ix ix_list (pv 3) (pv 4) (fun _ _ => rfl)) (pv 5) set_list))
        (pss_one (ps_asg (pv 6) (pg_sub (pe_ix ix_list (pv 3) (pv 5) (fun _ _ => rfl)) (pv 4) set_list)))))
      (pss_cons (ps_for PassesOwn.never rfl (pi_range1 rfl mRange (pa_cons (pv 1) pa_nil)) (pg_name (i := 7) scFar.nd rfl (Or.inl rfl))
        (pss_one (ps_for PassesOwn.never rfl (pi_range1 rfl mRange (pa_cons (pv 1) pa_nil)) (pg_name (i := 4) scFar.nd rfl (Or.inl rfl))
          (pss_one (ps_for PassesOwn.never rfl (pi_range1 rfl mRange (pa_cons (pv 1) pa_nil)) (pg_name (i := 5) scFar.nd rfl (Or.inl rfl))
            (pss_cons (ps_set (i := 8) scFar.nd rfl (Or.inl rfl) (pe_call GA hr rfl mA FA.kp bA .nil pass0 (pa_cons (pe_ix ix_list (pe_ix ix_list (pv 3) (pv 4) (fun _ _ => rfl)) (pv 7) (fun _ _ => rfl)) (pa_cons (pe_ix ix_list (pe_ix ix_list (pv 3) (pv 7) (fun _ _ => rfl)) (pv 5) (fun _ _ => rfl)) pa_nil))))
            (pss_one (ps_asg (pe_call GL hr rfl mL FL.kp bL .nil pass0 (pa_cons (pe_ix ix_list (pe_ix ix_list (pv 3) (pv 4) (fun _ _ => rfl)) (pv 5) (fun _ _ => rfl)) (pa_cons (pv 8) pa_nil))) (pg_sub (pe_ix ix_list (pv 3) (pv 4) (fun _ _ => rfl)) (pv 5) set_list)))))))))
      (pss_one (ps_ret (pv 3)))))), ?_⟩
    refine ⟨_, rfl, wa, _, rfl, SqT.of hwa, rfl, _, _, rfl, _, _, rfl, rfl, ?_⟩
    refine ⟨_, rfl, n, rfl, om, om, [.int n], rfl, fun D hD => ?_⟩
    refine comp_range (lo := 0) (n := n.toNat) (fun q ys H1 => q ≤ n.toNat ∧ Ex2 fun (rs : List Addr) (M : List (List (Option Int))) => ys = rs.map V.ref ∧ rs.length = q ∧ LRows H1 rs M ∧ (∀ x : Nat, x < q → M[x]? = some (rowI x n.toNat)) ∧ (∀ r ∈ rs, H r = none ∧ r ≠ D) ∧ Same H H1 ∧ H1 D = some (.lst ys))
      ⟨Nat.zero_le _, [], [], rfl, rfl, ⟨rfl, List.nodup_nil, fun i r row h => by simp at h⟩, fun x hx => absurd hx (Nat.not_lt_zero _), fun r h => by simp at h, same_laid hD, upd_same⟩ (fun q ys H1 h => ?_) (fun q ys H1 hq h => ?_) (fun ys H1 h => ?_)
    · obtain ⟨hq, rs, M, rfl, hl, -⟩ := h
      rw [List.length_map, hl]
      exact small_line om
    · obtain ⟨_, rs, M, rfl, hl, R, L, fr, sm, hD1⟩ := h
      rw [Int.zero_add]
      refine ⟨⟨rfl, rfl⟩, ?_⟩
      refine tyes ?_
      refine ⟨_, rfl, n, rfl, om, om, [.int q], rfl, fun D2 hD2 => ?_⟩
      have nD2 : D2 ≠ D := fun z => by rw [z, hD1] at hD2; cases hD2
      refine comp_range (lo := 0) (n := n.toNat) (fun j ys H2 => C4 (j ≤ n.toNat) (ys = (rowI q j).map oV) (Same H1 H2) (H2 D2 = some (.lst ys)))
        ⟨Nat.zero_le _, rfl, same_laid hD2, upd_same⟩ (fun j ys H2 h => ?_) (fun j ys H2 hj h => ?_) (fun ys H2 h => ?_)
      · obtain ⟨hj, rfl, -⟩ := h
        rw [List.length_map, rowI_len]
        exact small_line om
      · obtain ⟨_, rfl, s2, h2⟩ := h
        rw [Int.zero_add]
        refine ⟨⟨rfl, rfl⟩, ?_⟩
        refine tyes ?_
        refine ⟨_, rfl, _, rfl, rfl, _, rfl, ?_⟩
        by_cases e : (q : Int) = (j : Int)
        · refine ifT (decide_eq_true (congrArg V.int e)) ?_
          refine ⟨h2, hj, ?_, same_chg s2 hD2, upd_same⟩
          rw [rowI_succ, if_pos e, List.map_append]; rfl
        · refine ifF (decide_eq_false fun z => e (V.int.inj z)) ?_
          refine ⟨h2, hj, ?_, same_chg s2 hD2, upd_same⟩
          rw [rowI_succ, if_neg e, List.map_append]; rfl
      · obtain ⟨_, rfl, s2, h2⟩ := h
        have hD22 : H2 D = some (.lst (rs.map V.ref)) := s2 _ _ hD1
        have frD2 : H D2 = none := by
          cases z : H D2 with
          | none => rfl
          | some o => rw [sm _ _ z] at hD2; cases hD2
        have nin : D2 ∉ rs := fun z => by
          obtain ⟨i, hi, e⟩ := List.getElem_of_mem z
          have hM : i < M.length := by rw [← R.1]; exact hi
          have := R.2.2 i D2 M[i] (by rw [List.getElem?_eq_getElem hi, e]) (List.getElem?_eq_getElem hM)
          rw [hD2] at this; cases this
        refine ⟨hD22, hq, rs ++ [D2], M ++ [rowI q n.toNat], by rw [List.map_append]; rfl, by rw [List.length_append, hl]; rfl, ⟨by rw [List.length_append, List.length_append, R.1]; rfl, ?_, fun i r row h1 h3 => ?_⟩, fun x hx => ?_, fun r hr' => ?_, same_chg (sm.trans s2) hD, upd_same⟩
        · exact List.nodup_append.mpr ⟨R.2.1, by simp, fun a ha b hb => by
            have e : b = D2 := by simpa using hb
            rw [e]; exact fun z => nin (z ▸ ha)⟩
        · have key : H2 r = some (.lst (row.map oV)) ∧ r ≠ D := by
            by_cases hi : i < rs.length
            · rw [List.getElem?_append_left hi] at h1
              rw [List.getElem?_append_left (by rw [← R.1]; exact hi)] at h3
              exact ⟨s2 _ _ (R.2.2 i r row h1 h3), (fr r (List.mem_of_getElem? h1)).2⟩
            · rw [List.getElem?_append_right om] at h1
              rw [List.getElem?_append_right (by rw [← R.1]; (first | lia | omega)), ← R.1] at h3
              cases hz : i - rs.length with
              | zero =>
                rw [hz] at h1 h3
                have e1 : D2 = r := by simpa using h1
                have e2 : rowI q n.toNat = row := by simpa using h3
                subst e1 e2
                exact ⟨h2, nD2⟩
              | succ k => rw [hz] at h1; simp at h1
          rw [upd_ne key.2]
          exact key.1
        · by_cases hx' : x < q
          · rw [List.getElem?_append_left (by rw [← R.1, hl]; exact hx')]
            exact L x hx'
          · have e : x = q := by first | lia | omega
            subst e
            rw [List.getElem?_append_right (by rw [← R.1, hl]; exact Nat.le_refl _), ← R.1, hl]
            simp
        · rcases List.mem_append.mp hr' with z | z
          · exact fr r z
          · have e : r = D2 := by simpa using z
            rw [e]; exact ⟨frD2, nD2⟩
    · obtain ⟨_, rs, M, rfl, hl, R, L, fr, sm, hD1⟩ := h
      have hML : M.length = n.toNat := by rw [← R.1, hl]
      have S0 : Sqm n M := ⟨hML, fun r hr' => by
        obtain ⟨i, hi, e⟩ := List.getElem_of_mem hr'
        have := L i om
        rw [List.getElem?_eq_getElem hi, e] at this
        rw [Option.some.inj this, rowI_len]⟩
      have M0 : ∀ x y, 0 ≤ x → x < n → 0 ≤ y → y < n → mat M x y = if x = y then some 0 else none := fun x y hx hx' hy hy' => by
        unfold mat
        rw [if_pos hx, List.getD_eq_getElem?_getD, L x.toNat om, Option.getD_some, rowI_get hy om, show ((x.toNat : Nat) : Int) = x by first | lia | omega]
      have wr : ∀ {H2 : Hp} {r : Addr} {o : HO}, r ∈ rs → Same H H2 → Same H (upd H2 r o) := fun {H2 r o} hr' s2 => same_chg s2 (fr r hr').1
      have wD : ∀ {H2 : Hp} {r : Addr} {o : HO}, r ∈ rs → H2 D = some (.lst (rs.map V.ref)) → (upd H2 r o) D = some (.lst (rs.map V.ref)) := fun {H2 r o} hr' e => by rw [upd_ne (fr r hr').2.symm]; exact e
      refine ⟨_, rfl, ta, rfl, ⟨_, SqT.of (sm _ _ hta)⟩, for_tup (K := K) (a := ta) (xs := tys)
        (fun i σ H2 => Ex6 fun (v4 v5 v6 v7 v8 : Option V) (M : List (List (Option Int))) => C6 (σ = [some (.ref wa), some (.int n), some (.ref ta), some (.ref D), v4, v5, v6, v7, v8]) (Same H H2) (H2 D = some (.lst (rs.map V.ref))) (LRows H2 rs M) (Sqm n M) (Ft (ts.take i) n (mat M)))
        ⟨_, _, _, _, _, M, rfl, sm, hD1, R, S0, by rw [List.take_zero]; exact Ft.nil n M0⟩ (fun i σ H2 _ ⟨_, _, _, _, _, _, _, s, _, _, _, _⟩ => SqT.of (s _ _ hta)) ?turn1 ?after1⟩
      case turn1 =>
        rintro i y σ H2 hi ⟨v4, v5, v6, v7, v8, M2, rfl, s2, hD2, R2, S2, T2⟩
        obtain ⟨ya, ky, rfl, hky, hya, -⟩ := TA.get hi
        rw [List.getElem?_map] at hky
        obtain ⟨⟨a, b, c⟩, hti, rfl⟩ : ∃ t : T3, ts[i]? = some t ∧ tl t = ky := by
          cases e : ts[i]? with
          | none => rw [e] at hky; cases hky
          | some t => rw [e] at hky; exact ⟨t, rfl, Option.some.inj hky⟩
        have hm := List.mem_of_getElem? hti
        have hr3 := G.rng _ hm
        simp only at hr3
        obtain ⟨ra, rowa, a1, a2, a3, a4, a5, -⟩ := R2.get S2 (a := a) om om
        have ma := List.mem_of_getElem? a1
        refine ⟨ya, _, rfl, SqT.of (s2 _ _ hya), rfl, _, _, rfl, _, _, rfl, _, _, rfl, rfl, ?_⟩
        refine ⟨_, rfl, _, rfl, _, rfl, D, _, _, .ref ra, rfl, rfl, SqL.of hD2, atI_in om (by rw [List.getElem?_map, a1]; rfl), _, rfl, ra, _, b, b.toNat, rfl, rfl, a5, ixN_in om (by rw [List.length_map, a4]; (first | lia | omega)), ?_⟩
        have R3 : LRows (upd H2 ra (.lst ((rowa.map oV).set b.toNat (.int c)))) rs (setm M2 a b (some c)) := R2.set S2 (v := some c) om om a1 a2
        have S3 : Sqm n (setm M2 a b (some c)) := S2.set om om
        have s3 := wr (o := .lst ((rowa.map oV).set b.toNat (.int c))) ma s2
        have hD3 := wD (o := .lst ((rowa.map oV).set b.toNat (.int c))) ma hD2
        generalize upd H2 ra (.lst ((rowa.map oV).set b.toNat (.int c))) = H3 at R3 s3 hD3 ⊢
        obtain ⟨rb, rowb, b1, b2, b3, b4, b5, -⟩ := R3.get S3 (a := b) om om
        have mb := List.mem_of_getElem? b1
        refine ⟨_, rfl, _, rfl, _, rfl, D, _, _, .ref rb, rfl, rfl, SqL.of hD3, atI_in (show 0 ≤ b by first | lia | omega) (by rw [List.getElem?_map, b1]; rfl), _, rfl, rb, _, a, a.toNat, rfl, rfl, b5, ixN_in om (by rw [List.length_map, b4]; (first | lia | omega)), ?_⟩
        have R4 : LRows (upd H3 rb (.lst ((rowb.map oV).set a.toNat (.int c)))) rs (setm (setm M2 a b (some c)) b a (some c)) := R3.set S3 (v := some c) om om b1 b2
        refine ⟨_, _, _, _, _, _, rfl, wr mb s3, wD mb hD3, R4, S3.set om om, ?_⟩
        have hsp : ts = ts.take i ++ (a, b, c) :: ts.drop (i + 1) := by
          have hil := (List.getElem?_eq_some_iff.mp hti)
          conv => lhs; rw [← List.take_append_drop i ts, List.drop_eq_getElem_cons hil.1, hil.2]
        have htk : ts.take (i + 1) = ts.take i ++ [(a, b, c)] := by rw [List.take_add_one, hti]; rfl
        rw [htk]
        refine (Ft.put (post := ts.drop (i + 1)) (by rw [← hsp]; exact G) T2).congr fun x y hx hx' hy hy' => ?_
        rw [mat_set S3 om om om om hx hx', mat_set S2 om om om om hx hx']
      case after1 =>
        rintro σ H2 ⟨v4, v5, v6, v7, v8, M2, rfl, s2, hD2, R2, S2, T2⟩
        have hlt : tys.length = ts.length := by rw [TA.length, List.length_map]
        rw [hlt, List.take_length] at T2
        have FC := T2.fw G
        refine ⟨_, rfl, n, rfl, om, om, for_range (lo := 0) (n := n.toNat)
          (fun kk σ H3 => Ex6 fun (v4 v5 v6 v7 v8 : Option V) (M : List (List (Option Int))) => C7 (σ = [some (.ref wa), some (.int n), some (.ref ta), some (.ref D), v4, v5, v6, v7, v8]) (Same H H3) (H3 D = some (.lst (rs.map V.ref))) (LRows H3 rs M) (Sqm n M) (Fw ts n (mat M)) (Cov ts n (kk : Int) (mat M)))
          ⟨_, _, _, _, _, M2, rfl, s2, hD2, R2, S2, FC.1, FC.2⟩ ?turn2 ?after2⟩
        case after2 =>
          rintro σ H3 ⟨v4, v5, v6, v7, v8, M3, rfl, s3, hD3, R3, S3, f3, c3⟩
          rw [show ((n.toNat : Nat) : Int) = n by first | lia | omega] at c3
          exact ⟨_, rfl, k D rs M3 H3 s3 hD3 R3 (rows_of G S3 f3 c3)⟩
        case turn2 =>
          rintro kk σ H3 hkk ⟨v4, v5, v6, v7, v8, M3, rfl, s3, hD3, R3, S3, f3, c3⟩
          rw [Int.zero_add]
          refine ⟨_, rfl, n, rfl, om, om, for_range (lo := 0) (n := n.toNat)
            (fun aa σ H4 => Ex5 fun (v4 v5 v6 v8 : Option V) (M : List (List (Option Int))) => C6 (σ = [some (.ref wa), some (.int n), some (.ref ta), some (.ref D), v4, v5, v6, some (.int (kk : Int)), v8]) (Same H H4) (H4 D = some (.lst (rs.map V.ref))) (LRows H4 rs M) (Sqm n M) (Fm ts n (kk : Int) (mat M) (fun x _ => x < (aa : Int))))
            ⟨_, _, _, _, M3, rfl, s3, hD3, R3, S3, (Fm.enter f3 c3).congr (fun _ _ _ _ _ _ => rfl) fun x y hx _ _ _ z => by first | lia | omega⟩ ?turn3 ?after3⟩
          case after3 =>
            rintro σ H4 ⟨v4, v5, v6, v8, M4, rfl, s4, hD4, R4, S4, F4⟩
            have fc := F4.leave fun x y _ hx' _ _ => by first | lia | omega
            exact ⟨_, _, _, _, _, M4, rfl, s4, hD4, R4, S4, fc.1, fc.2⟩
          case turn3 =>
            rintro aa σ H4 haa ⟨v4, v5, v6, v8, M4, rfl, s4, hD4, R4, S4, F4⟩
            rw [Int.zero_add]
            refine ⟨_, rfl, n, rfl, om, om, for_range (lo := 0) (n := n.toNat)
              (fun bb σ H5 => Ex4 fun (v5 v6 v8 : Option V) (M : List (List (Option Int))) => C6 (σ = [some (.ref wa), some (.int n), some (.ref ta), some (.ref D), some (.int (aa : Int)), v5, v6, some (.int (kk : Int)), v8]) (Same H H5) (H5 D = some (.lst (rs.map V.ref))) (LRows H5 rs M) (Sqm n M) (Fm ts n (kk : Int) (mat M) (fun x y => x < (aa : Int) ∨ (x = (aa : Int) ∧ y < (bb : Int)))))
              ⟨_, _, _, M4, rfl, s4, hD4, R4, S4, F4.congr (fun _ _ _ _ _ _ => rfl) fun x y _ _ hy _ z => by first | lia | omega⟩ ?turn4 ?after4⟩
            case after4 =>
              rintro σ H5 ⟨v5, v6, v8, M5, rfl, s5, hD5, R5, S5, F5⟩
              exact ⟨_, _, _, _, M5, rfl, s5, hD5, R5, S5, F5.congr (fun _ _ _ _ _ _ => rfl) fun x y _ _ _ hy' z => by first | lia | omega⟩
            case turn4 =>
              rintro bb σ H5 hbb ⟨v5, v6, v8, M5, rfl, s5, hD5, R5, S5, F5⟩
              rw [Int.zero_add]
              obtain ⟨ra, rowa, a1, a2, a3, a4, a5, a6⟩ := R5.get S5 (a := (aa : Int)) om om
              obtain ⟨rk, rowk, k1, k2, k3, k4, k5, k6⟩ := R5.get S5 (a := (kk : Int)) om om
              have ma := List.mem_of_getElem? a1
              refine ⟨_, rfl, _, rfl, D, _, _, .ref ra, rfl, rfl, SqL.of hD5, atI_in om (by rw [List.getElem?_map, a1]; rfl), _, rfl, ra, _, _, _, rfl, rfl, SqL.of a5, row_at a4 om om, ?_⟩
              refine ⟨_, rfl, _, rfl, D, _, _, .ref rk, rfl, rfl, SqL.of hD5, atI_in om (by rw [List.getElem?_map, k1]; rfl), _, rfl, rk, _, _, _, rfl, rfl, SqL.of k5, row_at k4 om om, ?_⟩
              refine ⟨_, _, rfl, ?_⟩
              refine ⟨_, rfl, _, rfl, D, _, _, .ref ra, rfl, rfl, SqL.of hD5, atI_in om (by rw [List.getElem?_map, a1]; rfl), _, rfl, ra, _, _, _, rfl, rfl, SqL.of a5, row_at a4 om om, ?_⟩
              refine ⟨_, rfl, _, _, rfl, ?_⟩
              refine ⟨_, rfl, _, rfl, D, _, _, .ref ra, rfl, rfl, SqL.of hD5, atI_in om (by rw [List.getElem?_map, a1]; rfl), _, rfl, ra, _, _, (bb : Int).toNat, rfl, rfl, a5, ixN_in om (by rw [List.length_map, a4]; (first | lia | omega)), ?_⟩
              refine ⟨_, _, _, _, rfl, wr ma s5, wD ma hD5, R5.set S5 om om a1 a2, S5.set om om, ?_⟩
              refine (Fm.step G F5 (a := (aa : Int)) (b := (bb : Int)) om om om om om om).congr (fun x y hx hx' hy hy' => ?_) fun x y _ _ _ _ z => by first | lia | omega
              rw [mat_set S5 om om om om hx hx', a6, a6, k6]
end
noncomputable def PD (ts : List T3) (kvs : List (List Key × V)) : Prop := ∀ x y : Int, (∀ l, valV kvs [Sum.inl x, Sum.inl y] = some (.int l) ↔ Adj ts x y l) ∧ ∀ v, valV kvs [Sum.inl x, Sum.inl y] = some v → ∃ l, v = .int l
theorem PD.nil : PD [] [] := fun x y => ⟨fun l => by simp [valV_nil, Adj], fun v h => by simp [valV_nil] at h⟩
theorem pair_eq {x y a b : Int} : ([Sum.inl x, Sum.inl y] : List Key) = [Sum.inl a, Sum.inl b] ↔ x = a ∧ y = b := by simp
theorem PD.put {n : Int} {ts pre : List T3} {a b c : Int} {post : List T3} (g : GW n ts) (e : ts = pre ++ (a, b, c) :: post) {kvs : List (List Key × V)} (h : PD pre kvs) : PD (pre ++ [(a, b, c)]) (putK (putK kvs [Sum.inl a, Sum.inl b] (.int c)) [Sum.inl b, Sum.inl a] (.int c)) := by
  have hin : (a, b, c) ∈ ts := by rw [e]; simp
  have hab := (g.rng _ hin).2.1
  simp only at hab
  have sub : ∀ {x y l}, Adj (pre ++ [(a, b, c)]) x y l → Adj ts x y l := fun h => by
    rw [e]
    rcases h with h | h
    · refine .inl ?_
      rcases List.mem_append.mp h with q | q
      · exact List.mem_append_left _ q
      · rw [List.mem_singleton.mp q]; simp
    · refine .inr ?_
      rcases List.mem_append.mp h with q | q
      · exact List.mem_append_left _ q
      · rw [List.mem_singleton.mp q]; simp
  have new : Adj (pre ++ [(a, b, c)]) a b c := .inl (by simp)
  intro x y
  rw [valV_put, valV_put]
  by_cases h1 : x = b ∧ y = a
  · obtain ⟨rfl, rfl⟩ := h1
    rw [if_pos rfl]
    refine ⟨fun l => ⟨fun hl => ?_, fun ha => ?_⟩, fun v hv => ⟨c, (Option.some.inj hv).symm⟩⟩
    · have : c = l := by have := Option.some.inj hl; injection this
      subst this
      exact new.symm
    · rw [g.uniq (sub ha) (sub new.symm)]
  · rw [if_neg (fun z => h1 (pair_eq.mp z))]
    by_cases h2 : x = a ∧ y = b
    · obtain ⟨rfl, rfl⟩ := h2
      rw [if_pos rfl]
      refine ⟨fun l => ⟨fun hl => ?_, fun ha => ?_⟩, fun v hv => ⟨c, (Option.some.inj hv).symm⟩⟩
      · have : c = l := by have := Option.some.inj hl; injection this
        subst this
        exact new
      · rw [g.uniq (sub ha) (sub new)]
    · rw [if_neg (fun z => h2 (pair_eq.mp z))]
      refine ⟨fun l => ?_, (h x y).2⟩
      rw [(h x y).1 l]
      constructor
      · rintro (q | q)
        · exact .inl (List.mem_append_left _ q)
        · exact .inr (List.mem_append_left _ q)
      · rintro (q | q)
        · rcases List.mem_append.mp q with q | q
          · exact .inl q
          · exfalso
            have := List.mem_singleton.mp q
            injection this with q1 q2
            injection q2 with q2 q3
            exact h2 ⟨q1, q2⟩
        · rcases List.mem_append.mp q with q | q
          · exact .inr q
          · exfalso
            have := List.mem_singleton.mp q
            injection this with q1 q2
            injection q2 with q2 q3
            exact h1 ⟨q2, q1⟩
theorem PD.some {ts : List T3} {kvs : List (List Key × V)} (h : PD ts kvs) (x y : Int) : (valV kvs [Sum.inl x, Sum.inl y]).isSome = true ↔ ∃ l, Adj ts x y l := by
  constructor
  · intro hs
    obtain ⟨v, hv⟩ := Option.isSome_iff_exists.mp hs
    obtain ⟨l, rfl⟩ := (h x y).2 v hv
    exact ⟨l, ((h x y).1 l).mp hv⟩
  · rintro ⟨l, ha⟩
    rw [((h x y).1 l).mpr ha]
    rfl
theorem scal_oV (a b : Option Int) : scal (oV a) (oV b) = true := by cases a <;> cases b <;> rfl
theorem oV_none_eq : decide (oV none = V.non) = true := decide_eq_true rfl
theorem dec_oV (a b : Option Int) : decide (oV a = oV b) = decide (a = b) := decide_eq_decide.mpr ⟨fun h => by
  cases a with
  | none =>
    cases b with
    | none => rfl
    | some b => cases h
  | some a =>
    cases b with
    | none => cases h
    | some b => rw [V.int.inj h], fun h => by rw [h]⟩
inductive FarAt_r (H : Hp) (fl : Addr) (n : Int) (ts : List T3) (M : List (List (Option Int))) : Prop
  | mk : ∀ rs : List Addr, (H fl = some (.lst (rs.map V.ref))) → (LRows H rs M) → (Rows ts n M) → FarAt_r H fl n ts M
noncomputable def FarAt (H : Hp) (fl : Addr) (n : Int) (ts : List T3) (M : List (List (Option Int))) : Prop := FarAt_r H fl n ts M
theorem rows_sq {n : Int} {ts : List T3} {M : List (List (Option Int))} (R : Rows ts n M) : Sqm n M := ⟨R.1, fun r hr => by
  obtain ⟨i, hi, e⟩ := List.getElem_of_mem hr
  have h1 := R.1
  have := (R.2 (i : Int) om om).ln
  rw [Int.toNat_natCast, List.getD_eq_getElem?_getD, List.getElem?_eq_getElem hi, Option.getD_some, e] at this
  exact this⟩
theorem FarAt.keep {H H' : Hp} {fl : Addr} {n : Int} {ts : List T3} {M : List (List (Option Int))} (h : FarAt H fl n ts M) (k : ∀ b ys, H b = some (.lst ys) → H' b = some (.lst ys)) : FarAt H' fl n ts M := by
  obtain ⟨rs, a, b, c⟩ := h
  exact ⟨rs, k _ _ a, b.keep fun b ys e _ => k b ys e, c⟩
theorem FarAt.get {H : Hp} {fl : Addr} {n : Int} {ts : List T3} {M : List (List (Option Int))} (h : FarAt H fl n ts M) {x y : Int} (hx : 0 ≤ x) (hx' : x < n) (hy : 0 ≤ y) (hy' : y < n) :
    ∃ (rs : List V) (r : Addr) (row : List V), H fl = some (.lst rs) ∧ atI rs x = some (.ref r) ∧ H r = some (.lst row) ∧ atI row y = some (oV (mat M x y)) ∧ Len ts x y (mat M x y) := by
  obtain ⟨rs, a, b, c⟩ := h
  obtain ⟨r, row, e1, e2, e3, e4, e5, e6⟩ := b.get (rows_sq c) hx hx'
  have L := c.2 x hx hx'
  rw [e3] at L
  refine ⟨_, r, _, a, atI_in hx (by rw [List.getElem?_map, e1]; rfl), e5, ?_, ?_⟩
  · rw [← e6]; exact row_at e4 hy hy'
  · rw [← e6]; exact L.len y hy hy'
noncomputable def onB (M : List (List (Option Int))) (p x y : Int) : Bool := match mat M x y with
  | none => false
  | some d => decide (oadd (mat M x p) (mat M p y) = some d)
theorem onB_iff {H : Hp} {fl : Addr} {n : Int} {ts : List T3} {M : List (List (Option Int))} (h : FarAt H fl n ts M) {p x y : Int} (hp : 0 ≤ p) (hp' : p < n) (hx : 0 ≤ x) (hx' : x < n) (hy : 0 ≤ y) (hy' : y < n) : onB M p x y = true ↔ Btw ts x y p := by
  obtain ⟨_, _, _, _, _, _, _, l1⟩ := h.get hx hx' hy hy'
  obtain ⟨_, _, _, _, _, _, _, l2⟩ := h.get hx hx' hp hp'
  obtain ⟨_, _, _, _, _, _, _, l3⟩ := h.get hp hp' hy hy'
  unfold onB
  constructor
  · intro z
    cases e : mat M x y with
    | none => rw [e] at z; cases z
    | some d =>
      rw [e] at z l1
      obtain ⟨a, b, e1, e2, e3⟩ := oadd_some (of_decide_eq_true z)
      rw [e1] at l2
      rw [e2] at l3
      exact ⟨a, b, l2, l3, by rw [e3]; exact l1⟩
  · rintro ⟨a, b, h1, h2, h3⟩
    have e1 := Len.uniq l1 (show Len ts x y (some (a + b)) from h3)
    have e2 := Len.uniq l2 (show Len ts x p (some a) from h1)
    have e3 := Len.uniq l3 (show Len ts p y (some b) from h2)
    rw [e1, e2, e3]
    exact decide_eq_true rfl
inductive spOn_r (vs : List V) (H : Hp) (Q : VK) : Prop
  | mk : ∀ (fl : Addr) (n : Int) (ts : List T3) (M : List (List (Option Int))) (p x y : Int), (vs = [.ref fl, .int p, .int x, .int y]) → (FarAt H fl n ts M) → (0 ≤ p) → (p < n) → (0 ≤ x) → (x < n) → (0 ≤ y) → (y < n) → (Q (.bl (onB M p x y)) H) → spOn_r vs H Q
noncomputable def spOn : Sp := fun vs H Q _ => spOn_r vs H Q
inductive spJoi_r (vs : List V) (H : Hp) (Q : VK) : Prop
  | mk : ∀ (wa : Addr) (n : Int) (ts : List T3), (vs = [.ref wa]) → (WebAt H wa n ts) → (∀ (d : Addr) (kvs : List (List Key × V)) (H' : Hp), Same H H' → H' d = some (.dT kvs) → PD ts kvs → Q (.ref d) H') → spJoi_r vs H Q
noncomputable def spJoi : Sp := fun vs H Q _ => spJoi_r vs H Q
inductive spNxs_r (vs : List V) (H : Hp) (Q : VK) : Prop
  | mk : ∀ (wa fl : Addr) (n : Int) (ts : List T3) (M : List (List (Option Int))) (x y : Int), (vs = [.ref wa, .ref fl, .int x, .int y]) → (WebAt H wa n ts) → (FarAt H fl n ts M) → (0 ≤ x) → (x < n) → (0 ≤ y) → (y < n) → (∀ (l : Addr) (xs : List Int) (H' : Hp), Same H H' → H' l = some (.lst (xs.map V.int)) → xs.Pairwise (· < ·) → (∀ p, p ∈ xs ↔ Nxt ts x y p) → Q (.ref l) H') → spNxs_r vs H Q
noncomputable def spNxs : Sp := fun vs H Q _ => spNxs_r vs H Q
section
variable {P : Program} {w : World} {K : PySem.W.Frag} {mg : Str → Option Value} {base : Heap}
theorem scOn : FnScope ["_law_far_here", "_law_place", "_law_one", "_law_other", "_law_due"] ["_law_far_here", "_law_place", "_law_one", "_law_other"] (defScope sOn) := ⟨rfl, rfl, rfl, by decide +kernel, rfl, by decide +kernel, by decide +kernel⟩
theorem ok_on {f fA : Addr} {fd' fdA : FuncData} (F : Fun K "_law_on" "_law_on" sOn f fd') (FA : Fun K "_law_added" "_law_added" sAdd fA fdA) (bA : Binds K fdA ["_law_one", "_law_other"] []) (mA : mg "_law_added" = some (.ref fA)) : FnOk P w K mg base CX0 2 f fd' ["_law_far_here", "_law_place", "_law_one", "_law_other"] spOn := by
  have GA : FnOk P w K mg base CX0 1 fA fdA ["_law_one", "_law_other"] spAdd := ok_add FA
  refine F.ok scOn (fun vs H Q E h => ?_) (fun cdv A outer s H vs Q E hr h => ?_)
  · obtain ⟨fl, n, ts, M, p, x, y, rfl, -⟩ := h
    rfl
  · obtain ⟨fl, n, ts, M, p, x, y, rfl, FR, hp, hp', hx, hx', hy, hy', k⟩ := h
    refine ⟨_, pss_cons (ps_set (i := 4) scOn.nd rfl (Or.inl rfl) (pe_ix ix_list (pe_ix ix_list (pv 0) (pv 2) (fun _ _ => rfl)) (pv 3) (fun _ _ => rfl)))
      (pss_one (ps_ret (pe_and (pe_cmpR op_notN (pv 4) pe_non (nomark _)) (pe_one (pe_cmpR op_eq (pe_call GA hr rfl mA FA.kp bA .nil pass0 (pa_cons (pe_ix ix_list (pe_ix ix_list (pv 0) (pv 2) (fun _ _ => rfl)) (pv 1) (fun _ _ => rfl)) (pa_cons (pe_ix ix_list (pe_ix ix_list (pv 0) (pv 1) (fun _ _ => rfl)) (pv 3) (fun _ _ => rfl)) pa_nil))) (pv 4) (nomark _)))))), ?_⟩
    obtain ⟨r1, a1, w1, f1, g1, i1, j1, -⟩ := FR.get hx hx' hy hy'
    obtain ⟨r2, a2, w2, f2, g2, i2, j2, -⟩ := FR.get hx hx' hp hp'
    obtain ⟨r3, a3, w3, f3, g3, i3, j3, -⟩ := FR.get hp hp' hy hy'
    refine ⟨_, rfl, _, rfl, fl, _, _, .ref a1, rfl, rfl, SqL.of f1, g1, _, rfl, a1, _, _, _, rfl, rfl, SqL.of i1, j1, ?_⟩
    refine ⟨_, rfl, rfl, _, rfl, ?_⟩
    unfold onB at k
    cases e : mat M x y with
    | none =>
      rw [e] at k
      exact ifF (by rw [oV_none_eq]; rfl) k
    | some d =>
      rw [e] at k
      refine ifT (by rw [oV_some_ne]; rfl) ?_
      refine ⟨_, rfl, _, rfl, fl, _, _, .ref a2, rfl, rfl, SqL.of f2, g2, _, rfl, a2, _, _, _, rfl, rfl, SqL.of i2, j2, ?_⟩
      refine ⟨_, rfl, _, rfl, fl, _, _, .ref a3, rfl, rfl, SqL.of f3, g3, _, rfl, a3, _, _, _, rfl, rfl, SqL.of i3, j3, ?_⟩
      refine ⟨_, _, rfl, _, rfl, scal_oV _ (some d), ?_⟩
      rw [dec_oV]
      exact k
theorem scJoi : FnScope ["_law_web_here", "_law_found", "_law_a", "_law_b", "_law_long"] ["_law_web_here"] (defScope sJoi) := ⟨rfl, rfl, rfl, by decide +kernel, rfl, by decide +kernel, by decide +kernel⟩
theorem ok_joi {f : Addr} {fd' : FuncData} (F : Fun K "_law_joined" "_law_joined" sJoi f fd') : FnOk P w K mg base CX0 1 f fd' ["_law_web_here"] spJoi := by
  refine F.ok scJoi (fun vs H Q E h => ?_) (fun cdv A outer s H vs Q E hr h => ?_)
  · obtain ⟨wa, n, ts, rfl, -⟩ := h
    rfl
  · obtain ⟨wa, n, ts, rfl, W, k⟩ := h
    obtain ⟨ta, tys, hwa, hta, TA, G⟩ := id W
    have hlt : tys.length = ts.length := by rw [TA.length, List.length_map]
    have hu := hu_of hr
    refine ⟨_, pss_cons (ps_set (i := 1) scJoi.nd rfl (Or.inl rfl) pe_dnewT)
      (pss_cons (ps_for PassesOwn.never rfl (pi_tup (pe_ix ix_tup (pv 0) pe_int (fun _ _ => rfl))) (pg_tup rfl (pgs_cons (pg_name (i := 2) scJoi.nd rfl (Or.inl rfl)) (pgs_cons (pg_name (i := 3) scJoi.nd rfl (Or.inl rfl)) (pgs_cons (pg_name (i := 4) scJoi.nd rfl (Or.inl rfl)) pgs_nil))))
          (pss_cons (ps_dput hu (pv 1) (pe_tup (pa_cons (pv 2) (pa_cons (pv 3) pa_nil))) (pv 4) rfl) (pss_one (ps_dput hu (pv 1) (pe_tup (pa_cons (pv 3) (pa_cons (pv 2) pa_nil))) (pv 4) rfl))))
      (pss_one (ps_ret (pv 1)))), ?_⟩
    intro d hd
    refine ⟨_, rfl, wa, _, _, _, rfl, rfl, SqT.of (same_laid hd _ _ hwa), rfl, ta, rfl, ⟨_, SqT.of (same_laid hd _ _ hta)⟩, for_tup (K := K) (a := ta) (xs := tys)
      (fun j σ H5 => Ex4 fun (v2 v3 v4 : Option V) (kvs : List (List Key × V)) => C5 (σ = [some (.ref wa), some (.ref d), v2, v3, v4]) (Same H H5) (H5 d = some (.dT kvs)) (kvs.length ≤ 2 * j) (PD (ts.take j) kvs))
      ⟨_, _, _, [], rfl, same_laid hd, upd_same, Nat.le_refl _, PD.nil⟩ (fun j σ H5 _ ⟨_, _, _, _, _, s5, _, _, _⟩ => SqT.of (s5 _ _ hta)) ?turn1 ?after1⟩
    case turn1 =>
      rintro j y σ H5 hj ⟨v2, v3, v4, kvs, rfl, s5, hd5, hkl, pd⟩
      obtain ⟨ya, ky, rfl, hky, hya, -⟩ := TA.get hj
      rw [List.getElem?_map] at hky
      obtain ⟨⟨x, z, c⟩, htj, rfl⟩ : ∃ t : T3, ts[j]? = some t ∧ tl t = ky := by
        cases e : ts[j]? with
        | none => rw [e] at hky; cases hky
        | some t => rw [e] at hky; exact ⟨t, rfl, Option.some.inj hky⟩
      have hjl : j < ts.length := (List.getElem?_eq_some_iff.mp htj).1
      have h64 := G.len
      refine ⟨ya, _, rfl, SqT.of (s5 _ _ hya), rfl, _, _, rfl, _, _, rfl, _, _, rfl, rfl, ?_⟩
      refine ⟨_, rfl, _, rfl, _, rfl, _, rfl, by show 2 ≤ sizeLine; decide, fun p hp => ?_⟩
      refine ⟨d, _, rfl, DPut.t (k := [Sum.inl x, Sum.inl z]) (same_laid hp _ _ hd5) upd_same (small_line om), ?_⟩
      refine ⟨_, rfl, _, rfl, _, rfl, _, rfl, by show 2 ≤ sizeLine; decide, fun p2 hp2 => ?_⟩
      refine ⟨d, _, rfl, DPut.t (k := [Sum.inl z, Sum.inl x]) (same_laid hp2 _ _ upd_same) upd_same (small_line (Nat.le_trans (length_putK _ _ _) om)), ?_⟩
      refine ⟨_, _, _, _, rfl, ?_, upd_same, Nat.le_trans (length_putK _ _ _) (Nat.le_trans (Nat.succ_le_succ (length_putK _ _ _)) om), ?_⟩
      · have a1 : Same H (upd (upd H5 p (.tup [.int x, .int z])) d (.dT (putK kvs [Sum.inl x, Sum.inl z] (.int c)))) := same_chg (s5.trans (same_laid hp)) hd
        exact same_chg (a1.trans (same_laid hp2)) hd
      · rw [List.take_add_one, htj]
        refine PD.put G (post := ts.drop (j + 1)) ?_ pd
        have e1 : ts.drop j = (x, z, c) :: ts.drop (j + 1) := by
          rw [List.drop_eq_getElem_cons hjl]
          rw [List.getElem?_eq_getElem hjl] at htj
          rw [Option.some.inj htj]
        rw [← e1, List.take_append_drop]
    case after1 =>
      rintro σ H5 ⟨v2, v3, v4, kvs, rfl, s5, hd5, hkl, pd⟩
      rw [hlt, List.take_of_length_le (Nat.le_refl _)] at pd
      exact ⟨_, rfl, k d kvs H5 s5 hd5 pd⟩
end
noncomputable def nb (kvs : List (List Key × V)) (M : List (List (Option Int))) (x y d p : Int) : Bool := match valV kvs [Sum.inl x, Sum.inl p], mat M p y with
  | some (.int l), some b => decide (l + b = d)
  | _, _ => false
section
variable {P : Program} {w : World} {K : PySem.W.Frag} {mg : Str → Option Value} {base : Heap}
theorem scNxs : FnScope ["_law_web_here", "_law_far_here", "_law_one", "_law_other", "_law_due", "_law_pairs", "_law_some"] ["_law_web_here", "_law_far_here", "_law_one", "_law_other"] (defScope sNxs) := ⟨rfl, rfl, rfl, by decide +kernel, rfl, by decide +kernel, by decide +kernel⟩
theorem ok_nxs {f fJ : Addr} {fd' fdJ : FuncData} (F : Fun K "_law_nexts" "_law_nexts" sNxs f fd') (FJ : Fun K "_law_joined" "_law_joined" sJoi fJ fdJ) (bJ : Binds K fdJ ["_law_web_here"] []) (mJ : mg "_law_joined" = some (.ref fJ)) (mRange : mg "range" = none) : FnOk P w K mg base CX0 2 f fd' ["_law_web_here", "_law_far_here", "_law_one", "_law_other"] spNxs := by
  have GJ : FnOk P w K mg base CX0 1 fJ fdJ ["_law_web_here"] spJoi := ok_joi FJ
  refine F.ok scNxs (fun vs H Q E h => ?_) (fun cdv A outer s H vs Q E hr h => ?_)
  · obtain ⟨wa, fl, n, ts, M, x, y, rfl, -⟩ := h
    rfl
  · obtain ⟨wa, fl, n, ts, M, x, y, rfl, W, FR, hx, hx', hy, hy', k⟩ := h
    obtain ⟨ta, tys, hwa, hta, TA, G⟩ := id W
    have hu := hu_of hr
    have hn1 := G.n1
    have hn24 := G.n24
    refine ⟨_, pss_cons (ps_set (i := 4) scNxs.nd rfl (Or.inr rfl) (pe_ix ix_list (pe_ix ix_list (pv 1) (pv 2) (fun _ _ => rfl)) (pv 3) (fun _ _ => rfl)))
      (pss_cons (ps_if (PW.pt (pw_or (pt_cmpR op_eq (pv 2) (pv 3) (nomark _)) (pw_or1 (pt_cmpR op_isN (pv 4) pe_non (nomark _))))) (pss_one (ps_ret (pe_lst pa_nil))) pss_nil)
      (pss_cons (ps_set (i := 5) scNxs.nd rfl (Or.inr rfl) (pe_call GJ hr rfl mJ FJ.kp bJ .nil pass0 (pa_cons (pv 0) pa_nil)))
      (pss_cons (ps_setC (i := 6) (own := ["_law_place"]) (cn := ["_law_one", "_law_pairs"]) (ci := [2, 5]) scNxs.nd rfl (Or.inl rfl) rfl (csc rfl rfl) ⟨rfl, rfl, rfl, rfl, rfl, rfl, trivial⟩ rfl
        (pi_range1 rfl mRange (pa_cons (pe_ix ix_tup (pv 0) pe_int (fun _ _ => rfl)) pa_nil)) (fun _ _ _ _ => pg_name (i := 0) (nd_of rfl) rfl (Or.inl rfl))
        (fun _ _ _ _ => pts_one (pt_cmp (pc_din hu (pe_tup (pa_cons (pv 1) (pa_cons (pv 0) pa_nil))) (pv 2)))) (fun _ _ _ _ => pv 0))
      (pss_one (ps_ret (pe_comp (own := ["_law_place"]) (cn := ["_law_pairs", "_law_one", "_law_far_here", "_law_other", "_law_due"]) (ci := [5, 2, 1, 3, 4]) rfl (csc rfl rfl) ⟨rfl, rfl, rfl, rfl, rfl, rfl, rfl, rfl, rfl, rfl, rfl, rfl, rfl, rfl, rfl, trivial⟩ rfl
        (pi_list (pv 6)) (fun _ _ _ _ => pg_name (i := 0) (nd_of rfl) rfl (Or.inl rfl))
        (fun _ _ _ _ => pts_one (pt_cmpR op_eq (pe_op op_add (pe_dget hu (pv 1) (pe_tup (pa_cons (pv 2) (pa_cons (pv 0) pa_nil))) (fun _ _ => rfl)) (pe_ix ix_listC (pe_ix ix_listC (pv 3) (pv 0) (fun _ _ => rfl)) (pv 4) (fun _ _ => rfl))) (pv 5) (nomark _)))
        (fun _ _ _ _ => pv 0))))))), ?_⟩
    obtain ⟨r1, a1, w1, f1, g1, i1, j1, l1⟩ := FR.get hx hx' hy hy'
    refine ⟨_, rfl, _, rfl, fl, _, _, .ref a1, rfl, rfl, SqL.of f1, g1, _, rfl, a1, _, _, _, rfl, rfl, SqL.of i1, j1, ?_⟩
    refine ⟨_, rfl, _, rfl, rfl, _, rfl, ?_⟩
    by_cases hxy : x = y
    · refine ifT (decide_eq_true (congrArg V.int hxy)) (ifT rfl ?_)
      exact ⟨Nat.zero_le _, fun l hl => k l [] _ (same_laid hl) upd_same List.Pairwise.nil fun p => ⟨fun z => by simp at z, fun z => absurd hxy (Nxt.ne G z)⟩⟩
    refine ifF (decide_eq_false fun z => hxy (V.int.inj z)) ?_
    refine ⟨_, rfl, rfl, _, rfl, ?_⟩
    cases e : mat M x y with
    | none =>
      rw [e] at l1
      refine ifT oV_none_eq ?_
      exact ⟨Nat.zero_le _, fun l hl => k l [] _ (same_laid hl) upd_same List.Pairwise.nil fun p => ⟨fun z => by simp at z, fun ⟨l, b, _, _, z⟩ => absurd z.1 (l1 _)⟩⟩
    | some d =>
      rw [e] at l1
      have hxy' : WM.IsD ts x y d := l1
      refine ifF (oV_some_ne d) ?_
      refine ⟨_, rfl, wa, n, ts, rfl, W, fun dd kvs H1 s1 hd1 pd => ?_⟩
      refine ⟨_, rfl, wa, _, _, _, rfl, rfl, SqT.of (s1 _ _ hwa), rfl, n, rfl, om, om, [.int x, .ref dd], rfl, fun D hD => ?_⟩
      refine comp_range (lo := 0) (n := n.toNat) (fun q ys H7 => q ≤ n.toNat ∧ ys = ((lowTo q).filter fun o => (valV kvs [Sum.inl x, Sum.inl o]).isSome).map V.int ∧ Same H1 H7 ∧ H7 D = some (.lst ys)) ⟨Nat.zero_le _, rfl, same_laid hD, upd_same⟩ (fun q ys H7 h => ?_) (fun q ys H7 hq h => ?_) (fun ys H7 h => ?_)
      · obtain ⟨hq, rfl, -⟩ := h
        rw [List.length_map]
        refine Nat.lt_of_le_of_lt (List.length_filter_le _ _) (small_line ?_)
        rw [lowTo, List.length_map, List.length_range]
        (first | lia | omega)
      · obtain ⟨_, rfl, s7, hD7⟩ := h
        rw [Int.zero_add]
        refine ⟨⟨rfl, rfl⟩, ?_⟩
        refine ⟨_, rfl, _, rfl, by show 2 ≤ sizeLine; decide, fun p hp => ?_⟩
        refine ⟨_, rfl, dd, _, rfl, DGet.t (k := [Sum.inl x, Sum.inl (q : Int)]) (same_laid hp _ _ (s7 _ _ hd1)) upd_same, _, rfl, ?_⟩
        refine ite2 (fun hc => ?_) (fun hc => ?_)
        · refine ⟨_, rfl, same_laid hp _ _ hD7, hq, ?_, same_chg (s7.trans (same_laid hp)) hD, upd_same⟩
          rw [ints_succ, List.filter_append, List.filter_cons_of_pos (p := fun o => (valV kvs [Sum.inl x, Sum.inl o]).isSome) hc, List.filter_nil, List.map_append]
          rfl
        · refine ⟨hq, ?_, s7.trans (same_laid hp), same_laid hp _ _ ?_⟩
          · rw [ints_succ, List.filter_append, List.filter_cons_of_neg (p := fun o => (valV kvs [Sum.inl x, Sum.inl o]).isSome) hc, List.filter_nil, List.append_nil]
          · exact hD7
      · obtain ⟨_, rfl, s7, hD7⟩ := h
        generalize hsm : ((lowTo n.toNat).filter fun o => (valV kvs [Sum.inl x, Sum.inl o]).isSome) = sm at hD7 ⊢
        have sm_rise : sm.Pairwise (· < ·) := by rw [← hsm]; exact (ints_rise _).sublist List.filter_sublist
        have sm_mem : ∀ p, p ∈ sm ↔ ∃ l, Adj ts x p l := fun p => by
          rw [← hsm, List.mem_filter, pd.some]
          refine ⟨fun h => h.2, fun h => ⟨mem_ints.mpr ?_, h⟩⟩
          obtain ⟨c, ha⟩ := h
          have := G.adj ha
          (first | lia | omega)
        have sm_len : sm.length ≤ 24 := by
          rw [← hsm]
          refine Nat.le_trans (List.length_filter_le _ _) ?_
          rw [lowTo, List.length_map, List.length_range]
          (first | lia | omega)
        have nb_iff : ∀ p, p ∈ sm.filter (nb kvs M x y d) ↔ Nxt ts x y p := fun p => by
          rw [List.mem_filter, sm_mem]
          constructor
          · rintro ⟨⟨l, ha⟩, hb⟩
            have hadj := G.adj ha
            obtain ⟨_, _, _, _, _, _, _, l3⟩ := FR.get (x := p) (y := y) om om hy hy'
            unfold nb at hb
            rw [((pd x p).1 l).mpr ha] at hb
            cases e2 : mat M p y with
            | none => rw [e2] at hb; cases hb
            | some b =>
              rw [e2] at hb l3
              have hs : l + b = d := of_decide_eq_true hb
              exact ⟨l, b, ha, l3, by rw [hs]; exact hxy'⟩
          · rintro ⟨l, b, ha, h2, h3⟩
            have hadj := G.adj ha
            obtain ⟨_, _, _, _, _, _, _, l3⟩ := FR.get (x := p) (y := y) om om hy hy'
            refine ⟨⟨l, ha⟩, ?_⟩
            unfold nb
            rw [((pd x p).1 l).mpr ha, Len.uniq l3 (show Len ts p y (some b) from h2)]
            exact decide_eq_true (WM.IsD.uniq h3 hxy')
        refine ⟨_, rfl, D, rfl, ⟨_, SqL.of hD7⟩, [.ref dd, .int x, .ref fl, .int y, .int d], rfl, fun D2 hD2 => ?_⟩
        have nDD : D ≠ D2 := ne_of_none hD7 hD2
        refine comp_list (a := D) (xs := sm.map V.int) (fun i ys H8 => ys = ((sm.take i).filter (nb kvs M x y d)).map V.int ∧ Same H7 H8 ∧ H8 D2 = some (.lst ys)) ⟨rfl, same_laid hD2, upd_same⟩ (fun i ys H8 h => ?_) (fun i ys H8 h => ?_) (fun i v ys H8 hv h => ?_) (fun ys H8 h => ?_)
        · exact SqL.of (h.2.1 _ _ hD7)
        · rw [h.1, List.length_map]
          refine Nat.lt_of_le_of_lt (List.length_filter_le _ _) (small_line ?_)
          rw [List.length_take]; (first | lia | omega)
        · obtain ⟨rfl, s8, hD8⟩ := h
          obtain ⟨p, hp, rfl⟩ : ∃ p, sm[i]? = some p ∧ V.int p = v := by
            rw [List.getElem?_map] at hv
            cases e : sm[i]? with
            | none => rw [e] at hv; cases hv
            | some p => rw [e] at hv; exact ⟨p, rfl, Option.some.inj hv⟩
          obtain ⟨l, ha⟩ := (sm_mem p).mp (List.mem_of_getElem? hp)
          have hadj := G.adj ha
          have hval := ((pd x p).1 l).mpr ha
          have s18 : Same H H8 := s1.trans (s7.trans s8)
          refine ⟨⟨rfl, rfl⟩, ?_⟩
          refine ⟨_, rfl, _, rfl, _, rfl, by show 2 ≤ sizeLine; decide, fun q hq => ?_⟩
          have sq : Same H (upd H8 q (.tup [.int x, .int p])) := s18.trans (same_laid hq)
          obtain ⟨r3, a3, w3, f3, g3, i3, j3, l3⟩ := (FR.keep fun b ys e => sq _ _ e).get (x := p) (y := y) om om hy hy'
          obtain ⟨b, eb⟩ : ∃ b, mat M p y = some b := by
            cases e2 : mat M p y with
            | none => rw [e2] at l3; exact absurd ((WM.Way.one ha).symm.trans hxy'.1) (l3 _)
            | some b => exact ⟨b, rfl⟩
          rw [eb] at j3
          refine ⟨dd, _, rfl, hval ▸ DGet.t (k := [Sum.inl x, Sum.inl p]) (same_laid hq _ _ (s8 _ _ (s7 _ _ hd1))) upd_same, ?_⟩
          refine ⟨_, rfl, _, rfl, fl, _, _, .ref a3, rfl, rfl, SqL.of f3, g3, _, rfl, a3, _, _, _, rfl, rfl, SqL.of i3, j3, l, b, rfl, rfl, ?_⟩
          refine ⟨_, rfl, rfl, _, rfl, ?_⟩
          have ek : sm.take (i + 1) = sm.take i ++ [p] := by rw [List.take_add_one, hp]; rfl
          have enb : nb kvs M x y d p = decide (l + b = d) := by unfold nb; rw [hval, eb]
          by_cases hs : l + b = d
          · refine ifT (decide_eq_true (congrArg V.int hs)) ?_
            refine ⟨_, rfl, same_laid hq _ _ hD8, ?_, same_chg (s8.trans (same_laid hq)) hD2, upd_same⟩
            rw [ek, List.filter_append, List.filter_cons_of_pos (by rw [enb]; exact decide_eq_true hs), List.filter_nil, List.map_append]
            rfl
          · refine ifF (decide_eq_false fun z => hs (V.int.inj z)) ?_
            refine ⟨?_, s8.trans (same_laid hq), same_laid hq _ _ hD8⟩
            rw [ek, List.filter_append, List.filter_cons_of_neg (by rw [enb, decide_eq_false hs]; decide), List.filter_nil, List.append_nil]
        · obtain ⟨rfl, s8, hD8⟩ := h
          rw [List.length_map, List.take_length] at hD8
          exact k D2 _ H8 (s1.trans (s7.trans s8)) hD8 (sm_rise.sublist List.filter_sublist) nb_iff
end
inductive spNum_r (vs : List V) (H : Hp) (Q : VK) : Prop
  | mk : ∀ i : Int, (vs = [.int i]) → (Q (.bl true) H) → spNum_r vs H Q
noncomputable def spNum : Sp := fun vs H Q _ => spNum_r vs H Q
inductive spWi_r (vs : List V) (H : Hp) (Q : VK) : Prop
  | mk : ∀ i a b : Int, (vs = [.int i, .int a, .int b]) → (a ≤ i) → (i ≤ b) → (Q (.bl true) H) → spWi_r vs H Q
noncomputable def spWi : Sp := fun vs H Q _ => spWi_r vs H Q
inductive spPl_r (vs : List V) (H : Hp) (Q : VK) : Prop
  | mk : ∀ n i : Int, (vs = [.int n, .int i]) → (0 ≤ i) → (i ≤ n - 1) → (Q (.bl true) H) → spPl_r vs H Q
noncomputable def spPl : Sp := fun vs H Q _ => spPl_r vs H Q
inductive spTof_r (vs : List V) (H : Hp) (Q : VK) : Prop
  | mk : ∀ (p : Addr) (ys : List V), (vs = [.ref p, .int ys.length]) → (H p = some (.tup ys)) → (Q (.bl true) H) → spTof_r vs H Q
noncomputable def spTof : Sp := fun vs H Q _ => spTof_r vs H Q
structure Ordr (n : Int) (os : List Int) : Prop where
  ln : os.length = n.toNat
  nd : os.Nodup
  rng : ∀ p ∈ os, 0 ≤ p ∧ p < n
inductive spOrd_r (vs : List V) (H : Hp) (Q : VK) : Prop
  | mk : ∀ (wa p : Addr) (n : Int) (ts : List T3) (os : List Int), (vs = [.ref wa, .ref p]) → (WebAt H wa n ts) → (H p = some (.tup (os.map V.int))) → (Ordr n os) → (∀ H', Same H H' → Q (.bl true) H') → spOrd_r vs H Q
noncomputable def spOrd : Sp := fun vs H Q _ => spOrd_r vs H Q
section
variable {P : Program} {w : World} {K : PySem.W.Frag} {mg : Str → Option Value} {base : Heap}
theorem scNum : FnScope ["thing"] ["thing"] (defScope sNum) := ⟨rfl, rfl, rfl, by decide +kernel, rfl, by decide +kernel, by decide +kernel⟩
theorem ok_num {f : Addr} {fd' : FuncData} (F : Fun K "is_number" "is_number" sNum f fd') (mIsi : mg "isinstance" = none) (mInt : mg "int" = none) (mBool : mg "bool" = none) : FnOk P w K mg base CX0 1 f fd' ["thing"] spNum := by
  refine F.ok scNum (fun vs H Q E h => ?_) (fun cdv A outer s H vs Q E hr h => ?_)
  · obtain ⟨i, rfl, -⟩ := h
    rfl
  · obtain ⟨i, rfl, k⟩ := h
    refine ⟨_, pss_one (ps_ret (pe_and (pe_callB call_isinst (by rfl) mIsi (by decide +kernel) (pa_cons (pv 0) (pa_cons (pe_tyN (T := "int") (by rfl) mInt (by decide +kernel)) pa_nil)))
      (pe_one (pe_not (pe_callB call_isinst (by rfl) mIsi (by decide +kernel) (pa_cons (pv 0) (pa_cons (pe_tyN (T := "bool") (by rfl) mBool (by decide +kernel)) pa_nil))))))), ?_⟩
    refine ⟨_, rfl, _, _, _, true, rfl, .int i, rfl, true, rfl, iteT ?_⟩
    exact ⟨_, rfl, _, _, _, false, rfl, .int i, rfl, false, rfl, k⟩
theorem scWi : FnScope ["thing", "least", "most"] ["thing", "least", "most"] (defScope sWi) := ⟨rfl, rfl, rfl, by decide +kernel, rfl, by decide +kernel, by decide +kernel⟩
theorem ok_wi {f fN : Addr} {fd' fdN : FuncData} (F : Fun K "is_within" "is_within" sWi f fd') (FN : Fun K "is_number" "is_number" sNum fN fdN) (bN : Binds K fdN ["thing"] []) (mN : mg "is_number" = some (.ref fN)) (mIsi : mg "isinstance" = none) (mInt : mg "int" = none) (mBool : mg "bool" = none) :
    FnOk P w K mg base CX0 2 f fd' ["thing", "least", "most"] spWi := by
  have GN : FnOk P w K mg base CX0 1 fN fdN ["thing"] spNum := ok_num FN mIsi mInt mBool
  refine F.ok scWi (fun vs H Q E h => ?_) (fun cdv A outer s H vs Q E hr h => ?_)
  · obtain ⟨i, a, b, rfl, -⟩ := h
    rfl
  · obtain ⟨i, a, b, rfl, h1, h2, k⟩ := h
    refine ⟨_, pss_one (ps_ret (pe_and (pe_call GN hr rfl mN FN.kp bN .nil pass0 (pa_cons (pv 0) pa_nil)) (pe_and (pe_cmpR op_le (pv 1) (pv 0) (nomark _)) (pe_one (pe_cmpR op_le (pv 0) (pv 2) (nomark _)))))), ?_⟩
    refine ⟨_, rfl, i, rfl, true, rfl, iteT ?_⟩
    refine ⟨_, rfl, _, rfl, _, _, rfl, rfl, _, rfl, ?_⟩
    refine ifT (decide_eq_true h1) ?_
    refine ⟨_, rfl, _, rfl, _, _, rfl, rfl, ?_⟩
    show Q (.bl (decide (i ≤ b))) H
    rw [decide_eq_true h2]
    exact k
theorem scPl : FnScope ["n", "thing"] ["n", "thing"] (defScope sPl) := ⟨rfl, rfl, rfl, by decide +kernel, rfl, by decide +kernel, by decide +kernel⟩
theorem ok_pl {f fW fN : Addr} {fd' fdW fdN : FuncData} (F : Fun K "is_place" "is_place" sPl f fd') (FW : Fun K "is_within" "is_within" sWi fW fdW) (bW : Binds K fdW ["thing", "least", "most"] []) (mW : mg "is_within" = some (.ref fW)) (FN : Fun K "is_number" "is_number" sNum fN fdN) (bN : Binds K fdN ["thing"] []) (mN : mg "is_number" = some (.ref fN)) (mIsi : mg "isinstance" = none) (mInt : mg "int" = none) (mBool : mg "bool" = none) :
    FnOk P w K mg base CX0 3 f fd' ["n", "thing"] spPl := by
  have GW' : FnOk P w K mg base CX0 2 fW fdW ["thing", "least", "most"] spWi := ok_wi FW FN bN mN mIsi mInt mBool
  refine F.ok scPl (fun vs H Q E h => ?_) (fun cdv A outer s H vs Q E hr h => ?_)
  · obtain ⟨n, i, rfl, _⟩ := h
    rfl
  · obtain ⟨n, i, rfl, h1, h2, k⟩ := h
    refine ⟨_, pss_one (ps_ret (pe_call GW' hr rfl mW FW.kp bW .nil pass0 (pa_cons (pv 1) (pa_cons pe_int (pa_cons (pe_op op_sub (pv 0) pe_int) pa_nil))))), ?_⟩
    exact ⟨_, rfl, _, rfl, _, _, rfl, rfl, i, 0, n - 1, rfl, h1, h2, k⟩
theorem scTof : FnScope ["thing", "count"] ["thing", "count"] (defScope sTof) := ⟨rfl, rfl, rfl, by decide +kernel, rfl, by decide +kernel, by decide +kernel⟩
theorem ok_tof {f : Addr} {fd' : FuncData} (F : Fun K "is_tuple_of" "is_tuple_of" sTof f fd') (mIsi : mg "isinstance" = none) (mTuple : mg "tuple" = none) (mLen : mg "len" = none) : FnOk P w K mg base CX0 1 f fd' ["thing", "count"] spTof := by
  refine F.ok scTof (fun vs H Q E h => ?_) (fun cdv A outer s H vs Q E hr h => ?_)
  · obtain ⟨p, ys, rfl, -⟩ := h
    rfl
  · obtain ⟨p, ys, rfl, hp, k⟩ := h
    refine ⟨_, pss_one (ps_ret (pe_and (pe_callB call_isinst (by rfl) mIsi (by decide +kernel) (pa_cons (pv 0) (pa_cons (pe_tyN (T := "tuple") (by rfl) mTuple (by decide +kernel)) pa_nil)))
      (pe_one (pe_cmpR op_eq (pe_callB call_len_seq (by rfl) mLen PySem.boot_len (pa_cons (pv 0) pa_nil)) (pv 1) (nomark _))))), ?_⟩
    refine ⟨_, rfl, _, _, _, true, rfl, .tup hp, rfl, true, rfl, iteT ?_⟩
    refine ⟨_, rfl, p, _, rfl, .inr (SqT.of hp), _, rfl, rfl, ?_⟩
    rw [decide_eq_true rfl]
    exact k
theorem scOrd : FnScope ["web", "thing", "n"] ["web", "thing"] (defScope sOrd) := ⟨rfl, rfl, rfl, by decide +kernel, rfl, by decide +kernel, by decide +kernel⟩
theorem ok_ord {f fT fW fP fN : Addr} {fd' fdT fdW fdP fdN : FuncData} (F : Fun K "is_order" "is_order" sOrd f fd') (FT : Fun K "is_tuple_of" "is_tuple_of" sTof fT fdT) (bT : Binds K fdT ["thing", "count"] []) (mT : mg "is_tuple_of" = some (.ref fT))
    (FW : Fun K "is_within" "is_within" sWi fW fdW) (bW : Binds K fdW ["thing", "least", "most"] []) (mW : mg "is_within" = some (.ref fW)) (FP : Fun K "is_place" "is_place" sPl fP fdP) (bP : Binds K fdP ["n", "thing"] []) (mP : mg "is_place" = some (.ref fP)) (FN : Fun K "is_number" "is_number" sNum fN fdN) (bN : Binds K fdN ["thing"] []) (mN : mg "is_number" = some (.ref fN))
    (mIsi : mg "isinstance" = none) (mInt : mg "int" = none) (mBool : mg "bool" = none) (mTuple : mg "tuple" = none) (mLen : mg "len" = none) (mAll : mg "all" = none) (mSet : mg "set" = none) : FnOk P w K mg base CX0 4 f fd' ["web", "thing"] spOrd := by
  have GT : FnOk P w K mg base CX0 3 fT fdT ["thing", "count"] spTof := (ok_tof FT mIsi mTuple mLen).mono (by decide)
  have GP : FnOk P w K mg base CX0 3 fP fdP ["n", "thing"] spPl := ok_pl FP FW bW mW FN bN mN mIsi mInt mBool
  refine F.ok scOrd (fun vs H Q E h => ?_) (fun cdv A outer s H vs Q E hr h => ?_)
  · obtain ⟨wa, p, n, ts, os, rfl, -⟩ := h
    rfl
  · obtain ⟨wa, p, n, ts, os, rfl, W, hp, O, k⟩ := h
    obtain ⟨ta, tys, hwa, _, _, G⟩ := id W
    have hn1 := G.n1
    have hn24 := G.n24
    have hol : os.length ≤ 24 := by rw [O.ln]; (first | lia | omega)
    refine ⟨_, pss_cons (ps_set (i := 2) scOrd.nd rfl (Or.inr rfl) (pe_ix ix_tup (pv 0) pe_int (fun _ _ => rfl)))
      (pss_cons (ps_if (PW.pt (pw_or (pt_not (pt_val (pe_call GT hr rfl mT FT.kp bT .nil pass0 (pa_cons (pv 1) (pa_cons (pv 2) pa_nil)))))
        (pw_or1 (pt_not (pt_val (pe_callB (call_all rfl) (by rfl) mAll (by decide +kernel) (pa_cons (pe_comp (own := ["place"]) (cn := ["n"]) (ci := [2]) rfl (csc rfl rfl) ⟨rfl, rfl, rfl, trivial⟩ rfl (pi_tup (pv 1)) (fun _ _ _ _ => pg_name (i := 0) (nd_of rfl) rfl (Or.inl rfl))
          (fun _ _ _ _ => pts_nil) (fun _ _ _ _ => pe_call GP hr rfl mP FP.kp bP .nil pass0 (pa_cons (pv 1) (pa_cons (pv 0) pa_nil)))) pa_nil))))))) (pss_one (ps_ret pe_bl)) pss_nil)
      (pss_one (ps_ret (pe_cmpR op_eq (pe_callB call_lenS (by rfl) mLen PySem.boot_len (pa_cons (pe_callTy (call_setT rfl) (by rfl) mSet (by decide +kernel) (pa_cons (pv 1) pa_nil)) pa_nil)) (pv 2) (nomark _))))), ?_⟩
    refine ⟨_, rfl, wa, _, _, _, rfl, rfl, SqT.of hwa, rfl, ?_⟩
    have hpl : (os.map V.int).length = n := by rw [List.length_map, O.ln]; (first | lia | omega)
    refine ⟨_, rfl, _, rfl, p, os.map V.int, by rw [hpl]; rfl, hp, _, rfl, iteF ?_⟩
    refine ⟨_, rfl, p, rfl, ⟨_, SqT.of hp⟩, [.int n], rfl, fun D hD => ?_⟩
    refine comp_tup (a := p) (xs := os.map V.int) (fun i ys H4 => i ≤ os.length ∧ ys = (List.replicate i true).map V.bl ∧ H4 = upd H D (.lst ys)) ⟨Nat.zero_le _, rfl, rfl⟩ (fun i ys H4 h => ?_) (fun i ys H4 h => ?_) (fun i v ys H4 hv h => ?_) (fun ys H4 h => ?_)
    · obtain ⟨_, _, rfl⟩ := h
      exact SqT.of (by rw [upd_ne (ne_of_none hp hD)]; exact hp)
    · obtain ⟨hi, rfl, -⟩ := h
      rw [List.length_map, List.length_replicate]
      exact small_line om
    · obtain ⟨_, rfl, rfl⟩ := h
      obtain ⟨x, hx, rfl⟩ : ∃ x, os[i]? = some x ∧ V.int x = v := by
        rw [List.getElem?_map] at hv
        cases e : os[i]? with
        | none => rw [e] at hv; cases hv
        | some x => rw [e] at hv; exact ⟨x, rfl, Option.some.inj hv⟩
      have hr' := O.rng x (List.mem_of_getElem? hx)
      refine ⟨⟨rfl, rfl⟩, ?_⟩
      refine tyes ?_
      refine ⟨_, rfl, _, rfl, n, x, rfl, hr'.1, om, ?_⟩
      refine ⟨upd_same, (List.getElem?_eq_some_iff.mp hx).1, ?_, upd_upd⟩
      rw [List.replicate_succ', List.map_append]; rfl
    · obtain ⟨_, rfl, rfl⟩ := h
      refine ⟨D, List.replicate (os.map V.int).length true, rfl, SqL.of upd_same, _, rfl, ?_⟩
      have hall : (List.replicate (os.map V.int).length true).all id = true := List.all_eq_true.mpr fun b hb => (List.mem_replicate.mp hb).2
      rw [hall]
      refine iteF ?_
      have hp5 := same_laid (o := .lst ((List.replicate (os.map V.int).length true).map V.bl)) hD _ _ hp
      refine ⟨_, rfl, p, os, rfl, SqT.of hp5, om, fun d S hd => ?_⟩
      refine ⟨d, S, _, rfl, upd_same, _, rfl, rfl, ?_⟩
      rw [firstMet_nd O.nd os.length (Nat.le_refl _), List.take_of_length_le (Nat.le_refl _), decide_eq_true (by rw [← hpl, List.length_map])]
      exact k _ ((same_laid hD).trans (same_laid hd))
end
noncomputable def eV (e : En) : List V := [.int e.h, .int e.l, oV e.u, oV e.d]
noncomputable def EnsAt (H : Hp) (as : List Addr) (es : List En) : Prop := as.length = es.length ∧ ∀ (i : Nat) (a : Addr), as[i]? = some a → ∃ e, es[i]? = some e ∧ H a = some (.tup (eV e))
inductive LabAt_r (H : Hp) (p : Addr) (es : List En) : Prop
  | mk : ∀ as : List Addr, (H p = some (.tup (as.map V.ref))) → (EnsAt H as es) → (es.length ≤ 1000) → LabAt_r H p es
noncomputable def LabAt (H : Hp) (p : Addr) (es : List En) : Prop := LabAt_r H p es
theorem EnsAt.keep {H H' : Hp} {as : List Addr} {es : List En} (h : EnsAt H as es) (k : ∀ b ys, H b = some (.tup ys) → H' b = some (.tup ys)) : EnsAt H' as es :=
  ⟨h.1, fun i a ha => let ⟨e, h1, h2⟩ := h.2 i a ha; ⟨e, h1, k _ _ h2⟩⟩
theorem EnsAt.snoc {H : Hp} {as : List Addr} {es : List En} {a : Addr} {e : En} (h : EnsAt H as es) (ha : H a = some (.tup (eV e))) : EnsAt H (as ++ [a]) (es ++ [e]) := by
  refine ⟨by rw [List.length_append, List.length_append, h.1]; rfl, fun i b hb => ?_⟩
  by_cases c : i < as.length
  · rw [List.getElem?_append_left c] at hb
    obtain ⟨e', h1, h2⟩ := h.2 i b hb
    exact ⟨e', by rw [List.getElem?_append_left (by rw [← h.1]; exact c)]; exact h1, h2⟩
  · rw [List.getElem?_append_right om] at hb
    have hi : i - as.length = 0 := by
      cases z : i - as.length with
      | zero => rfl
      | succ m => rw [z] at hb; simp at hb
    rw [hi] at hb
    have : a = b := by simpa using hb
    subst this
    exact ⟨e, by rw [List.getElem?_append_right (by rw [← h.1]; (first | lia | omega)), ← h.1, hi]; rfl, ha⟩
theorem LabAt.keep {H H' : Hp} {p : Addr} {es : List En} (h : LabAt H p es) (k : ∀ b ys, H b = some (.tup ys) → H' b = some (.tup ys)) : LabAt H' p es :=
  let ⟨as, h1, h2, h3⟩ := h; ⟨as, k _ _ h1, h2.keep k, h3⟩
theorem LabAt.same {H H' : Hp} {p : Addr} {es : List En} (h : LabAt H p es) (k : Same H H') : LabAt H' p es := h.keep fun b ys e => k _ _ e
theorem EnsAt.at {H : Hp} {as : List Addr} {es : List En} (h : EnsAt H as es) {i : Nat} {v : V} (hv : (as.map V.ref)[i]? = some v) : ∃ a e, v = .ref a ∧ es[i]? = some e ∧ H a = some (.tup (eV e)) := by
  rw [List.getElem?_map] at hv
  cases z : as[i]? with
  | none => rw [z] at hv; cases hv
  | some a =>
    rw [z] at hv
    obtain ⟨e, h1, h2⟩ := h.2 i a z
    exact ⟨a, e, (Option.some.inj hv).symm, h1, h2⟩
inductive spOwn_r (vs : List V) (H : Hp) (Q : VK) : Prop
  | mk : ∀ (p : Addr) (es : List En) (e : En) (r : List En), (vs = [.ref p]) → (LabAt H p es) → (es.filter (fun e => decide (e.l = 0)) = e :: r) → (∀ H', Same H H' → Q (.int e.h) H') → spOwn_r vs H Q
noncomputable def spOwn : Sp := fun vs H Q _ => spOwn_r vs H Q
inductive spSum_r (vs : List V) (H : Hp) (Q : VK) : Prop
  | mk : ∀ (p q : Addr) (es fs : List En), (vs = [.ref p, .ref q]) → (LabAt H p es) → (LabAt H q fs) → (Hub fs) → (∀ (r : Addr) (lm : Option (Int × Int)) (H' : Hp), Same H H' → LMin (Cd es fs) lm → H' r = some (.tup [oV (lm.map (·.1)), oV (lm.map (·.2))]) → Q (.ref r) H') → spSum_r vs H Q
noncomputable def spSum : Sp := fun vs H Q _ => spSum_r vs H Q
inductive spTold_r (vs : List V) (H : Hp) (Q : VK) : Prop
  | mk : ∀ (p q : Addr) (es fs : List En), (vs = [.ref p, .ref q]) → (LabAt H p es) → (LabAt H q fs) → (Hub fs) → (∀ (lm : Option (Int × Int)) (H' : Hp), Same H H' → LMin (Cd es fs) lm → Q (oV (lm.map (·.1))) H') → spTold_r vs H Q
noncomputable def spTold : Sp := fun vs H Q _ => spTold_r vs H Q
inductive spHub_r (vs : List V) (H : Hp) (Q : VK) : Prop
  | mk : ∀ (p q : Addr) (es fs : List En), (vs = [.ref p, .ref q]) → (LabAt H p es) → (LabAt H q fs) → (Hub fs) → (∀ (lm : Option (Int × Int)) (H' : Hp), Same H H' → LMin (Cd es fs) lm → Q (oV (lm.map (·.2))) H') → spHub_r vs H Q
noncomputable def spHub : Sp := fun vs H Q _ => spHub_r vs H Q
inductive spEnt_r (vs : List V) (H : Hp) (Q : VK) : Prop
  | mk : ∀ (p : Addr) (es : List En) (x : Int), (vs = [.ref p, .int x]) → (LabAt H p es) → ((entE es x = none → Q .non H)) → ((∀ e a, entE es x = some e → H a = some (.tup (eV e)) → Q (.ref a) H)) → spEnt_r vs H Q
noncomputable def spEnt : Sp := fun vs H Q _ => spEnt_r vs H Q
inductive spStep_r (vs : List V) (H : Hp) (Q : VK) : Prop
  | mk : ∀ (p q : Addr) (es fs : List En) (e f : En) (r r' : List En), (vs = [.ref p, .ref q]) → (LabAt H p es) → (LabAt H q fs) → (Hub es) → (Hub fs) → (es.filter (fun e => decide (e.l = 0)) = e :: r) → (fs.filter (fun e => decide (e.l = 0)) = f :: r') → (∀ (lm : Option (Int × Int)) (H' : Hp), Same H H' → LMin (Cd es fs) lm → Q (oV (stepE es fs e.h f.h lm)) H') → spStep_r vs H Q
noncomputable def spStep : Sp := fun vs H Q _ => spStep_r vs H Q
theorem line1000 {n : Nat} (h : n ≤ 1000) : n < sizeLine := Nat.lt_of_le_of_lt h (by decide)
theorem dec_V {a b : Int} : decide (V.int a = V.int b) = decide (a = b) := by
  by_cases h : a = b
  · rw [decide_eq_true h, decide_eq_true (congrArg V.int h)]
  · rw [decide_eq_false h, decide_eq_false fun z => h (V.int.inj z)]
section
variable {P : Program} {w : World} {K : PySem.W.Frag} {mg : Str → Option Value} {base : Heap}
theorem scOwn : FnScope ["label"] ["label"] (defScope sOwn) := ⟨rfl, rfl, rfl, by decide +kernel, rfl, by decide +kernel, by decide +kernel⟩
theorem ok_own {f : Addr} {fd' : FuncData} (F : Fun K "own_place" "own_place" sOwn f fd') : FnOk P w K mg base CX0 1 f fd' ["label"] spOwn := by
  refine F.ok scOwn (fun vs H Q E h => ?_) (fun cdv A outer s H vs Q E hr h => ?_)
  · obtain ⟨p, es, e, r, rfl, -⟩ := h
    rfl
  · obtain ⟨p, es, e, r, rfl, L, hf, k⟩ := h
    obtain ⟨as, hp, EA, hl⟩ := id L
    refine ⟨_, pss_one (ps_ret (pe_ix ix_list (pe_comp (own := ["hub", "long", "up", "down"]) (cn := []) (ci := []) rfl (csc rfl rfl) trivial rfl (pi_tup (pv 0))
      (fun _ _ _ _ => pg_tupC (n := 4) rfl (pgs_cons (pg_name (i := 0) (nd_of rfl) rfl (Or.inl rfl)) (pgs_cons (pg_name (i := 1) (nd_of rfl) rfl (Or.inl rfl)) (pgs_cons (pg_name (i := 2) (nd_of rfl) rfl (Or.inl rfl)) (pgs_cons (pg_name (i := 3) (nd_of rfl) rfl (Or.inl rfl)) pgs_nil)))))
      (fun _ _ _ _ => pts_one (pt_cmpR op_eq (pv 1) pe_int (nomark _))) (fun _ _ _ _ => pv 0)) pe_int (fun _ _ => rfl))), ?_⟩
    refine ⟨_, rfl, p, rfl, ⟨_, SqT.of hp⟩, [], rfl, fun D hD => ?_⟩
    refine comp_tup (a := p) (xs := as.map V.ref) (fun i ys H4 => ys = ((es.take i).filter fun e => decide (e.l = 0)).map (fun e => V.int e.h) ∧ H4 = upd H D (.lst ys)) ⟨rfl, rfl⟩ (fun i ys H4 h => ?_) (fun i ys H4 h => ?_) (fun i v ys H4 hv h => ?_) (fun ys H4 h => ?_)
    · obtain ⟨_, rfl⟩ := h
      exact SqT.of (by rw [upd_ne (ne_of_none hp hD)]; exact hp)
    · obtain ⟨rfl, -⟩ := h
      rw [List.length_map]
      exact Nat.lt_of_le_of_lt (List.length_filter_le _ _) (line1000 (by rw [List.length_take]; (first | lia | omega)))
    · obtain ⟨rfl, rfl⟩ := h
      obtain ⟨a, x, rfl, hx, ha⟩ := EA.at hv
      refine ⟨a, _, rfl, SqT.of (by rw [upd_ne (ne_of_none ha hD)]; exact ha), rfl, _, _, rfl, _, _, rfl, _, _, rfl, _, _, rfl, rfl, ⟨rfl, rfl⟩, ?_⟩
      refine ⟨_, rfl, rfl, _, rfl, ?_⟩
      rw [dec_V]
      have st := filt_step (fun e : En => decide (e.l = 0)) hx
      refine ite2 (fun c => ?_) (fun c => ?_)
      · refine ⟨_, rfl, upd_same, ?_, upd_upd⟩
        rw [st, if_pos c, List.map_append]; rfl
      · refine ⟨?_, rfl⟩
        rw [st, if_neg c, List.append_nil]
    · obtain ⟨rfl, rfl⟩ := h
      rw [List.length_map, EA.1, List.take_of_length_le (Nat.le_refl _), hf]
      exact ⟨D, _, _, .int e.h, rfl, rfl, SqL.of upd_same, atI_in (by decide) rfl, k _ (same_laid hD)⟩
theorem scEnt : FnScope ["label", "hub", "entry"] ["label", "hub"] (defScope sEnt) := ⟨rfl, rfl, rfl, by decide +kernel, rfl, by decide +kernel, by decide +kernel⟩
theorem ok_ent {f : Addr} {fd' : FuncData} (F : Fun K "entry_of" "entry_of" sEnt f fd') : FnOk P w K mg base CX0 1 f fd' ["label", "hub"] spEnt := by
  refine F.ok scEnt (fun vs H Q E h => ?_) (fun cdv A outer s H vs Q E hr h => ?_)
  · obtain ⟨p, es, x, rfl, -⟩ := h
    rfl
  · obtain ⟨p, es, x, rfl, L, kn, ks⟩ := h
    obtain ⟨as, hp, EA, hl⟩ := id L
    refine ⟨_, pss_cons (ps_for PassesOwn.never rfl (pi_tup (pv 0)) (pg_name (i := 2) scEnt.nd rfl (Or.inl rfl))
        (pss_one (ps_if (pt_cmpR op_eq (pe_ix ix_tup (pv 2) pe_int (fun _ _ => rfl)) (pv 1) (nomark _)) (pss_one (ps_ret (pv 2))) pss_nil)))
      (pss_one (ps_ret pe_non)), ?_⟩
    refine ⟨_, rfl, p, rfl, ⟨_, SqT.of hp⟩, for_tup (K := K) (a := p) (xs := as.map V.ref) (fun i σ H2 => ∃ va : Option V, σ = [some (.ref p), some (.int x), va] ∧ H2 = H ∧ ∀ e ∈ es.take i, e.h ≠ x)
      ⟨none, rfl, rfl, fun e he => by simp at he⟩ (fun i σ H2 _ ⟨_, _, e, _⟩ => e ▸ SqT.of hp) ?turn ?after⟩
    case turn =>
      rintro i y σ H2 hi ⟨va, rfl, rfl, hno⟩
      obtain ⟨a, e, rfl, he, ha⟩ := EA.at hi
      refine ⟨_, rfl, a, _, _, .int e.h, rfl, rfl, SqT.of ha, rfl, _, rfl, rfl, _, rfl, ?_⟩
      rw [dec_V]
      refine ite2 (fun c => ?_) (fun c => ?_)
      · have c' : e.h = x := of_decide_eq_true c
        refine ⟨_, rfl, ks e a ?_ ha⟩
        unfold entE
        have hlt := (List.getElem?_eq_some_iff.mp he).1
        rw [← List.take_append_drop i es, List.find?_append, List.find?_eq_none.mpr (fun f hf => by simpa using hno f hf)]
        rw [List.drop_eq_getElem_cons hlt, (List.getElem?_eq_some_iff.mp he).2, List.find?_cons, decide_eq_true c']
        rfl
      · refine ⟨_, rfl, rfl, fun f hf => ?_⟩
        rw [List.take_add_one, he] at hf
        rcases List.mem_append.mp hf with z | z
        · exact hno f z
        · have : f = e := by simpa using z
          subst this
          exact fun q => c (decide_eq_true q)
    case after =>
      rintro σ H2 ⟨va, rfl, rfl, hno⟩
      refine kn (entE_none.mpr fun e he => hno e ?_)
      rw [List.length_map, EA.1, List.take_of_length_le (Nat.le_refl _)]
      exact he
theorem scSum : FnScope ["one", "other", "longs", "sums"] ["one", "other"] (defScope sSum) := ⟨rfl, rfl, rfl, by decide +kernel, rfl, by decide +kernel, by decide +kernel⟩
theorem ok_sum {f : Addr} {fd' : FuncData} (F : Fun K "least_sum" "least_sum" sSum f fd') (mDict : mg "dict" = none) (mMin : mg "min" = none) : FnOk P w K mg base CX0 1 f fd' ["one", "other"] spSum := by
  refine F.ok scSum (fun vs H Q E h => ?_) (fun cdv A outer s H vs Q E hr h => ?_)
  · obtain ⟨p, q, es, fs, rfl, -⟩ := h
    rfl
  · obtain ⟨p, q, es, fs, rfl, L1, L2', hF, k⟩ := h
    obtain ⟨as, hp, EA, hl⟩ := id L1
    obtain ⟨bs, hq, EB, hl2⟩ := id L2'
    have hu := hu_of hr
    refine ⟨_, pss_cons (ps_set (i := 2) scSum.nd rfl (Or.inr rfl) (pe_callTy (call_dictL rfl) (by rfl) mDict (by decide +kernel) (pa_cons
        (pe_comp (own := ["hub", "long", "up", "down"]) (cn := []) (ci := []) rfl (csc rfl rfl) trivial rfl (pi_tup (pv 1))
          (fun _ _ _ _ => pg_tupC (n := 4) rfl (pgs_cons (pg_name (i := 0) (nd_of rfl) rfl (Or.inl rfl)) (pgs_cons (pg_name (i := 1) (nd_of rfl) rfl (Or.inl rfl)) (pgs_cons (pg_name (i := 2) (nd_of rfl) rfl (Or.inl rfl)) (pgs_cons (pg_name (i := 3) (nd_of rfl) rfl (Or.inl rfl)) pgs_nil)))))
          (fun _ _ _ _ => pts_nil) (fun _ _ _ _ => pe_tup (pa_cons (pv 0) (pa_cons (pv 1) pa_nil)))) pa_nil)))
      (pss_cons (ps_setC (i := 3) (own := ["hub", "long", "up", "down"]) (cn := ["longs"]) (ci := [2]) scSum.nd rfl (Or.inl rfl) rfl (csc rfl rfl) ⟨rfl, rfl, rfl, trivial⟩ rfl (pi_tup (pv 0))
          (fun _ _ _ _ => pg_tupC (n := 4) rfl (pgs_cons (pg_name (i := 0) (nd_of rfl) rfl (Or.inl rfl)) (pgs_cons (pg_name (i := 1) (nd_of rfl) rfl (Or.inl rfl)) (pgs_cons (pg_name (i := 2) (nd_of rfl) rfl (Or.inl rfl)) (pgs_cons (pg_name (i := 3) (nd_of rfl) rfl (Or.inl rfl)) pgs_nil)))))
          (fun _ _ _ _ => pts_one (pt_cmp (pc_din hu (pv 0) (pv 4)))) (fun _ _ _ _ => pe_tup (pa_cons (pe_op op_add (pv 1) (pe_dget hu (pv 4) (pv 0) (fun _ _ => rfl))) (pa_cons (pv 0) pa_nil))))
      (pss_one (ps_ret (pe_minD rfl hu (by rfl) mMin (pa_cons (pv 3) pa_nil) (pe_tup (pa_cons pe_non (pa_cons pe_non pa_nil))))))), ?_⟩
    refine ⟨_, rfl, q, rfl, ⟨_, SqT.of hq⟩, [], rfl, fun D hD => ?_⟩
    refine comp_tup (a := q) (xs := bs.map V.ref) (fun i ys H4 => i ≤ fs.length ∧ ys.length = i ∧ (∀ (j : Nat) (y : V), ys[j]? = some y → ∃ c e, y = .ref c ∧ fs[j]? = some e ∧ H4 c = some (.tup [.int e.h, .int e.l])) ∧ Same H H4 ∧ H4 D = some (.lst ys)) ⟨Nat.zero_le _, rfl, fun j y z => by simp at z, same_laid hD, upd_same⟩ (fun i ys H4 h => ?_) (fun i ys H4 h => ?_) (fun i v ys H4 hv h => ?_) (fun ys H4 h => ?_)
    · exact SqT.of (h.2.2.2.1 _ _ hq)
    · exact line1000 (by have := h.1; have := h.2.1; (first | lia | omega))
    · obtain ⟨hi, hyl, hys, s4, hD4⟩ := h
      obtain ⟨a, x, rfl, hx, ha⟩ := EB.at hv
      refine ⟨a, _, rfl, SqT.of (s4 _ _ ha), rfl, _, _, rfl, _, _, rfl, _, _, rfl, _, _, rfl, rfl, ⟨rfl, rfl⟩, ?_⟩
      refine tyes ?_
      refine ⟨_, rfl, _, rfl, by show 2 ≤ sizeLine; decide, fun c hc => ?_⟩
      have nDc : D ≠ c := ne_of_none hD4 hc
      refine ⟨same_laid hc _ _ hD4, (List.getElem?_eq_some_iff.mp hx).1, by rw [List.length_append, hyl]; rfl, fun j y hy => ?_, same_chg (s4.trans (same_laid hc)) hD, upd_same⟩
      by_cases cj : j < i
      · rw [List.getElem?_append_left om] at hy
        obtain ⟨c', e, h1, h2, h3⟩ := hys j y hy
        refine ⟨c', e, h1, h2, ?_⟩
        rw [upd_ne (ne_of h3 hD4 (by intro z; cases z))]
        exact same_laid hc _ _ h3
      · have ej : j = i := by
          have := (List.getElem?_eq_some_iff.mp hy).1
          rw [List.length_append, hyl] at this
          simp at this; (first | lia | omega)
        subst ej
        rw [List.getElem?_append_right om, hyl, Nat.sub_self] at hy
        have ey : V.ref c = y := by simpa using hy
        subst ey
        exact ⟨c, x, rfl, hx, by rw [upd_ne (Ne.symm nDc)]; exact upd_same⟩
    · obtain ⟨_, hyl, hys, s4, hD4⟩ := h
      rw [List.length_map, EB.1] at hyl
      refine ⟨D, ys, fs.map fun e => (Sum.inl e.h, V.int e.l), rfl, SqL.of hD4, ⟨by rw [List.length_map, hyl], fun j y hy => ?_⟩, fun dd hdd => ?_⟩
      · obtain ⟨c, e, h1, h2, h3⟩ := hys j y hy
        exact ⟨c, Sum.inl e.h, .int e.l, h1, h3, by rw [List.getElem?_map, h2]; rfl⟩
      have hnd : ((fs.map fun e => ((Sum.inl e.h : Key), V.int e.l)).map (·.1)).Nodup := by
        rw [List.map_map, List.Nodup, List.pairwise_map]
        exact hF.imp fun h z => by injection z with z; (first | lia | omega)
      rw [putAll_id hnd]
      have hval : ∀ x : Int, valV (fs.map fun e => ((Sum.inl e.h : Key), V.int e.l)) (Sum.inl x) = (entE fs x).map fun e => V.int e.l := fun x => by
        unfold valV entE
        rw [List.find?_map, Option.map_map]
        have : ((fun kv : Key × V => decide (kv.1 = Sum.inl x)) ∘ fun e : En => ((Sum.inl e.h : Key), V.int e.l)) = fun e : En => decide (e.h = x) := by
          funext e
          show decide ((Sum.inl e.h : Key) = Sum.inl x) = _
          by_cases c : e.h = x
          · rw [decide_eq_true c, decide_eq_true (by rw [c])]
          · rw [decide_eq_false c, decide_eq_false (by intro z; injection z with z; exact c z)]
        rw [this]
        rfl
      have s5 : Same H (upd H4 dd (.dK (fs.map fun e => (Sum.inl e.h, V.int e.l)))) := s4.trans (same_laid hdd)
      have hd5 : (upd H4 dd (.dK (fs.map fun e => ((Sum.inl e.h : Key), V.int e.l)))) dd = some (.dK (fs.map fun e => (Sum.inl e.h, V.int e.l))) := upd_same
      generalize upd H4 dd (.dK (fs.map fun e => ((Sum.inl e.h : Key), V.int e.l))) = H5 at s5 hd5 ⊢
      generalize (fs.map fun e => ((Sum.inl e.h : Key), V.int e.l)) = kvs at hval hd5
      refine ⟨_, rfl, p, rfl, ⟨_, SqT.of (s5 _ _ hp)⟩, [.ref dd], rfl, fun D2 hD2 => ?_⟩
      refine comp_tup (a := p) (xs := as.map V.ref) (fun i ys H6 => TupsAre H6 ys (((es.take i).filterMap (cOf fs)).map fun c => [c.1, c.2]) ∧ Same H5 H6 ∧ H6 D2 = some (.lst ys)) ⟨trivial, same_laid hD2, upd_same⟩ (fun i ys H6 h => ?_) (fun i ys H6 h => ?_) (fun i v ys H6 hv h => ?_) (fun ys H6 h => ?_)
      · exact SqT.of (h.2.1 _ _ (s5 _ _ hp))
      · have := h.1.length
        rw [this, List.length_map]
        exact Nat.lt_of_le_of_lt (List.length_filterMap_le _ _) (line1000 (by rw [List.length_take]; (first | lia | omega)))
      · obtain ⟨T6, s6, hD6⟩ := h
        obtain ⟨a, x, rfl, hx, ha⟩ := EA.at hv
        refine ⟨a, _, rfl, SqT.of (s6 _ _ (s5 _ _ ha)), rfl, _, _, rfl, _, _, rfl, _, _, rfl, _, _, rfl, rfl, ⟨rfl, rfl⟩, ?_⟩
        refine ⟨_, rfl, _, rfl, dd, _, rfl, DGet.k (k := Sum.inl x.h) (s6 _ _ hd5), _, rfl, ?_⟩
        have st := fm_step (cOf fs) hx
        have hv2 := hval x.h
        cases e : entE fs x.h with
        | none =>
          rw [e] at hv2
          rw [hv2]
          refine iteF ?_
          have ec : cOf fs x = none := by unfold cOf; rw [e]; rfl
          refine ⟨?_, s6, hD6⟩
          rw [st, ec]
          simpa using T6
        | some g =>
          rw [e] at hv2
          have hv3 : valV kvs (Sum.inl x.h) = some (.int g.l) := hv2
          rw [hv3]
          refine iteT ?_
          have ec : cOf fs x = some (x.l + g.l, x.h) := by unfold cOf; rw [e]; rfl
          refine ⟨_, rfl, _, rfl, _, rfl, dd, .int g.l, rfl, hv3 ▸ DGet.k (k := Sum.inl x.h) (s6 _ _ hd5), _, _, rfl, rfl, _, rfl, by show 2 ≤ sizeLine; decide, fun c hc => ?_⟩
          refine ⟨same_laid hc _ _ hD6, ?_, same_chg (s6.trans (same_laid hc)) hD2, upd_same⟩
          rw [st, ec, List.map_append]
          refine TupsAre.snoc (T6.keep fun b zs e => ?_) ⟨c, rfl, ?_, by intro z; cases z⟩
          · rw [upd_ne (ne_of e hD6 (by intro z; cases z))]
            exact same_laid hc _ _ e
          · rw [upd_ne (Ne.symm (ne_of_none hD6 hc))]
            exact upd_same
      · obtain ⟨T6, s6, hD6⟩ := h
        rw [List.length_map, EA.1, List.take_of_length_le (Nat.le_refl _)] at T6
        have hmem := fun c => cOf_mem (es := es) hF c
        generalize es.filterMap (cOf fs) = cs at T6 hmem
        refine ⟨_, rfl, _, rfl, by show 2 ≤ sizeLine; decide, fun n hn => ?_⟩
        have s7 : Same H (upd H6 n (.tup [.non, .non])) := (s5.trans s6).trans (same_laid hn)
        refine ⟨D2, ys, rfl, .inl (SqL.of (same_laid hn _ _ hD6)), fun e0 => ?_, .inl ⟨_, T6.keep fun b zs e => same_laid hn _ _ e, fun i y kk hy hk hmin => ?_⟩⟩
        · refine k n none _ s7 (fun c z => ?_) upd_same
          have : cs = [] := by
            have := T6.length
            rw [e0, List.length_map] at this
            exact List.length_eq_zero_iff.mp this.symm
          rw [← hmem, this] at z
          simp at z
        · obtain ⟨a, k', e1, e2, e3, -⟩ := T6.get hy
          rw [hk] at e2
          cases e2
          rw [List.getElem?_map] at hk
          cases ec : cs[i]? with
          | none => rw [ec] at hk; cases hk
          | some c =>
            rw [ec] at hk
            have ek : [c.1, c.2] = kk := Option.some.inj hk
            subst ek e1
            refine k a (some c) _ s7 ⟨(hmem c).mp (List.mem_of_getElem? ec), fun c' hc' => ?_⟩ (same_laid hn _ _ e3)
            have := hmin [c'.1, c'.2] (List.mem_map.mpr ⟨c', (hmem c').mpr hc', rfl⟩)
            rw [HT.lexLt_cons] at this
            by_cases q : c'.1 = c.1
            · rw [if_pos q, HT.lexLt_cons] at this
              by_cases q2 : c'.2 = c.2
              · exact .inr ⟨q.symm, om⟩
              · rw [if_neg q2] at this
                have := of_decide_eq_false this
                exact .inr ⟨q.symm, om⟩
            · rw [if_neg q] at this
              have := of_decide_eq_false this
              exact .inl om
end
section
variable {P : Program} {w : World} {K : PySem.W.Frag} {mg : Str → Option Value} {base : Heap}
theorem scTold : FnScope ["one", "other"] ["one", "other"] (defScope sTold) := ⟨rfl, rfl, rfl, by decide +kernel, rfl, by decide +kernel, by decide +kernel⟩
theorem ok_told {f fS : Addr} {fd' fdS : FuncData} (F : Fun K "told" "told" sTold f fd') (FS : Fun K "least_sum" "least_sum" sSum fS fdS) (bS : Binds K fdS ["one", "other"] []) (mS : mg "least_sum" = some (.ref fS)) (mDict : mg "dict" = none) (mMin : mg "min" = none) : FnOk P w K mg base CX0 2 f fd' ["one", "other"] spTold := by
  have GS : FnOk P w K mg base CX0 1 fS fdS ["one", "other"] spSum := ok_sum FS mDict mMin
  refine F.ok scTold (fun vs H Q E h => ?_) (fun cdv A outer s H vs Q E hr h => ?_)
  · obtain ⟨p, q, es, fs, rfl, -⟩ := h
    rfl
  · obtain ⟨p, q, es, fs, rfl, L1, L2', hF, k⟩ := h
    refine ⟨_, pss_one (ps_ret (pe_ix ix_tup (pe_call GS hr rfl mS FS.kp bS .nil pass0 (pa_cons (pv 0) (pa_cons (pv 1) pa_nil))) pe_int (fun _ _ => rfl))), ?_⟩
    refine ⟨_, rfl, _, rfl, p, q, es, fs, rfl, L1, L2', hF, fun r lm H' s1 hm hr' => ?_⟩
    exact ⟨r, _, _, _, rfl, rfl, SqT.of hr', rfl, k lm H' s1 hm⟩
theorem scHub : FnScope ["one", "other"] ["one", "other"] (defScope sHub) := ⟨rfl, rfl, rfl, by decide +kernel, rfl, by decide +kernel, by decide +kernel⟩
theorem ok_hub {f fS : Addr} {fd' fdS : FuncData} (F : Fun K "told_hub" "told_hub" sHub f fd') (FS : Fun K "least_sum" "least_sum" sSum fS fdS) (bS : Binds K fdS ["one", "other"] []) (mS : mg "least_sum" = some (.ref fS)) (mDict : mg "dict" = none) (mMin : mg "min" = none) : FnOk P w K mg base CX0 2 f fd' ["one", "other"] spHub := by
  have GS : FnOk P w K mg base CX0 1 fS fdS ["one", "other"] spSum := ok_sum FS mDict mMin
  refine F.ok scHub (fun vs H Q E h => ?_) (fun cdv A outer s H vs Q E hr h => ?_)
  · obtain ⟨p, q, es, fs, rfl, -⟩ := h
    rfl
  · obtain ⟨p, q, es, fs, rfl, L1, L2', hF, k⟩ := h
    refine ⟨_, pss_one (ps_ret (pe_ix ix_tup (pe_call GS hr rfl mS FS.kp bS .nil pass0 (pa_cons (pv 0) (pa_cons (pv 1) pa_nil))) pe_int (fun _ _ => rfl))), ?_⟩
    refine ⟨_, rfl, _, rfl, p, q, es, fs, rfl, L1, L2', hF, fun r lm H' s1 hm hr' => ?_⟩
    exact ⟨r, _, _, _, rfl, rfl, SqT.of hr', rfl, k lm H' s1 hm⟩
theorem oV_isN {o : Option Int} : decide (oV o = V.non) = o.isNone := by
  cases o with
  | none => exact decide_eq_true rfl
  | some a => exact decide_eq_false (by intro z; cases z)
theorem LabAt.ent {H : Hp} {p : Addr} {es : List En} (L : LabAt H p es) (hs : Hub es) {x : Int} {e : En} (h : entE es x = some e) : ∃ a, H a = some (.tup (eV e)) := by
  obtain ⟨as, _, EA, -⟩ := L
  obtain ⟨hm, -⟩ := (entE_iff hs).mp h
  obtain ⟨i, hi, ee⟩ := List.getElem_of_mem hm
  have hi' : i < as.length := by rw [EA.1]; exact hi
  obtain ⟨e', h1, h2⟩ := EA.2 i as[i] (List.getElem?_eq_getElem hi')
  rw [List.getElem?_eq_getElem hi, ee] at h1
  cases h1
  exact ⟨_, h2⟩
theorem scStep : FnScope ["one", "other", "hub"] ["one", "other"] (defScope sStep) := ⟨rfl, rfl, rfl, by decide +kernel, rfl, by decide +kernel, by decide +kernel⟩
theorem ok_step {f fH fO fE : Addr} {fd' fdH fdO fdE : FuncData} (F : Fun K "next_step" "next_step" sStep f fd') (FH : Fun K "told_hub" "told_hub" sHub fH fdH) (bH : Binds K fdH ["one", "other"] []) (mH : mg "told_hub" = some (.ref fH)) (GH : FnOk P w K mg base CX0 2 fH fdH ["one", "other"] spHub)
    (FO : Fun K "own_place" "own_place" sOwn fO fdO) (bO : Binds K fdO ["label"] []) (mO : mg "own_place" = some (.ref fO)) (FE : Fun K "entry_of" "entry_of" sEnt fE fdE) (bE : Binds K fdE ["label", "hub"] []) (mE : mg "entry_of" = some (.ref fE)) : FnOk P w K mg base CX0 3 f fd' ["one", "other"] spStep := by
  have GO : FnOk P w K mg base CX0 2 fO fdO ["label"] spOwn := (ok_own FO).mono (by decide)
  have GE : FnOk P w K mg base CX0 2 fE fdE ["label", "hub"] spEnt := (ok_ent FE).mono (by decide)
  refine F.ok scStep (fun vs H Q E h => ?_) (fun cdv A outer s H vs Q E hr h => ?_)
  · obtain ⟨p, q, es, fs, e, f, r, r', rfl, -⟩ := h
    rfl
  · obtain ⟨p, q, es, fs, e, f, r, r', rfl, L1, L2', hE, hF, fe, ff, k⟩ := h
    refine ⟨_, pss_cons (ps_set (i := 2) scStep.nd rfl (Or.inl rfl) (pe_call GH hr rfl mH FH.kp bH .nil pass0 (pa_cons (pv 0) (pa_cons (pv 1) pa_nil))))
      (pss_cons (ps_if (PW.pt (pw_or (pt_cmpR op_isN (pv 2) pe_non (nomark _)) (pw_or1 (pt_cmpR op_eq (pe_call GO hr rfl mO FO.kp bO .nil pass0 (pa_cons (pv 0) pa_nil)) (pe_call GO hr rfl mO FO.kp bO .nil pass0 (pa_cons (pv 1) pa_nil)) (nomark _))))) (pss_one (ps_ret pe_non)) pss_nil)
      (pss_cons (ps_if (pt_cmpR op_eq (pv 2) (pe_call GO hr rfl mO FO.kp bO .nil pass0 (pa_cons (pv 0) pa_nil)) (nomark _)) (pss_one (ps_ret (pe_ix ix_tup (pe_call GE hr rfl mE FE.kp bE .nil pass0 (pa_cons (pv 1) (pa_cons (pv 2) pa_nil))) pe_int (fun _ _ => rfl)))) pss_nil)
      (pss_one (ps_ret (pe_ix ix_tup (pe_call GE hr rfl mE FE.kp bE .nil pass0 (pa_cons (pv 0) (pa_cons (pv 2) pa_nil))) pe_int (fun _ _ => rfl)))))), ?_⟩
    refine ⟨_, rfl, _, rfl, p, q, es, fs, rfl, L1, L2', hF, fun lm H1 s1 hm => ?_⟩
    refine ⟨_, rfl, rfl, _, rfl, ?_⟩
    rw [oV_isN]
    cases lm with
    | none => exact ifT rfl (ifT rfl (k none H1 s1 hm))
    | some c =>
      refine ifF rfl ?_
      refine ⟨_, rfl, p, es, e, r, rfl, L1.same s1, fe, fun H2 s2 => ?_⟩
      refine ⟨_, rfl, q, fs, f, r', rfl, L2'.same (s1.trans s2), ff, fun H3 s3 => ?_⟩
      have s13 : Same H H3 := (s1.trans s2).trans s3
      refine ⟨rfl, _, rfl, ?_⟩
      rw [dec_V]
      refine ite2 (fun z => ?_) (fun z => ?_)
      · have z' : e.h = f.h := of_decide_eq_true z
        have := k (some c) H3 s13 hm
        rw [show stepE es fs e.h f.h (some c) = none by show (if e.h = f.h then _ else _) = _; rw [if_pos z']] at this
        exact this
      · have z' : ¬ e.h = f.h := fun y => z (decide_eq_true y)
        refine ⟨_, rfl, _, rfl, p, es, e, r, rfl, L1.same s13, fe, fun H4 s4 => ?_⟩
        have s14 : Same H H4 := s13.trans s4
        have kk := k (some c) H4 s14 hm
        have e0 : stepE es fs e.h f.h (some c) = if c.2 = e.h then (entE fs c.2).bind (·.d) else (entE es c.2).bind (·.u) := by show (if e.h = f.h then _ else _) = _; rw [if_neg z']
        rw [e0] at kk
        obtain ⟨x, hx, y, hy, hyx, rfl⟩ := hm.1
        refine ⟨rfl, _, rfl, ?_⟩
        rw [show decide ((oV (Option.map (fun x => x.2) (some (x.l + y.l, x.h)))) = V.int e.h) = decide (x.h = e.h) from dec_V]
        have h1 : entE es x.h = some x := (entE_iff hE).mpr ⟨hx, rfl⟩
        have h2 : entE fs x.h = some y := (entE_iff hF).mpr ⟨hy, hyx⟩
        refine ite2 (fun c1 => ?_) (fun c1 => ?_)
        · have c1' : x.h = e.h := of_decide_eq_true c1
          obtain ⟨a, ha⟩ := (L2'.same s14).ent hF h2
          refine ⟨_, rfl, _, rfl, q, fs, x.h, rfl, L2'.same s14, fun n => ?_, fun g b hg hb => ?_⟩
          · rw [h2] at n; cases n
          · rw [h2] at hg; cases hg
            rw [if_pos c1', h2] at kk
            exact ⟨b, _, _, oV y.d, rfl, rfl, SqT.of hb, rfl, kk⟩
        · have c1' : ¬ x.h = e.h := fun y => c1 (decide_eq_true y)
          refine ⟨_, rfl, _, rfl, p, es, x.h, rfl, L1.same s14, fun n => ?_, fun g b hg hb => ?_⟩
          · rw [h1] at n; cases n
          · rw [h1] at hg; cases hg
            rw [if_neg c1', h1] at kk
            exact ⟨b, _, _, oV x.u, rfl, rfl, SqT.of hb, rfl, kk⟩
end
noncomputable def rkf (rks : List Int) (p : Int) : Int := rks.getD p.toNat 0
noncomputable def HubOf (ts : List T3) (rk : Int → Int) (h v : Int) : Prop := (∃ d, WM.IsD ts h v d) ∧ ∀ p, Btw ts h v p → rk h ≤ rk p
noncomputable def MinO (P : Int → Prop) : Option Int → Prop
  | none => ∀ p, ¬ P p
  | some m => P m ∧ ∀ p, P p → m ≤ p
theorem MinO.congr {P P' : Int → Prop} (e : ∀ p, P p ↔ P' p) : ∀ {o : Option Int}, MinO P o → MinO P' o
  | none, h => fun p z => h p ((e p).mpr z)
  | some _, h => ⟨(e _).mp h.1, fun p z => h.2 p ((e p).mpr z)⟩
structure EntOf (ts : List T3) (n : Int) (rk : Int → Int) (v : Int) (e : En) : Prop where
  rng : 0 ≤ e.h ∧ e.h < n
  hub : HubOf ts rk e.h v
  len : WM.IsD ts v e.h e.l
  up : MinO (Nxt ts v e.h) e.u
  dn : MinO (Nxt ts e.h v) e.d
structure LabOf (ts : List T3) (n : Int) (rk : Int → Int) (v : Int) (es : List En) : Prop where
  hub : Hub es
  ent : ∀ e ∈ es, EntOf ts n rk v e
  all : ∀ h, 0 ≤ h → h < n → HubOf ts rk h v → ∃ e ∈ es, e.h = h
  len : es.length ≤ 24
inductive LabsAt_r (H : Hp) (l : Addr) (ess : List (List En)) : Prop
  | mk : ∀ as : List Addr, (H l = some (.tup (as.map V.ref))) → (as.length = ess.length) → (∀ (i : Nat) (a : Addr), as[i]? = some a → ∃ es, ess[i]? = some es ∧ LabAt H a es) → LabsAt_r H l ess
noncomputable def LabsAt (H : Hp) (l : Addr) (ess : List (List En)) : Prop := LabsAt_r H l ess
theorem LabsAt.keep {H H' : Hp} {l : Addr} {ess : List (List En)} (h : LabsAt H l ess) (k : ∀ b ys, H b = some (.tup ys) → H' b = some (.tup ys)) : LabsAt H' l ess :=
  let ⟨as, h1, h2, h3⟩ := h; ⟨as, k _ _ h1, h2, fun i a ha => let ⟨es, e1, e2⟩ := h3 i a ha; ⟨es, e1, e2.keep k⟩⟩
theorem RowsAt.at {H : Hp} {rs : List Addr} {M : List (List (Option Int))} {ts : List T3} {n x : Int} (RA : RowsAt H rs M) (RR : Rows ts n M) (h0 : 0 ≤ x) (h1 : x < n) :
    ∃ r, (rs.map V.ref)[x.toNat]? = some (.ref r) ∧ H r = some (.tup ((M.getD x.toNat []).map oV)) ∧ Lens ts n x (M.getD x.toNat []) := by
  have hM : x.toNat < M.length := by rw [RR.1]; (first | lia | omega)
  have hr : x.toNat < rs.length := by rw [RA.1]; exact hM
  have e : M[x.toNat]? = some (M.getD x.toNat []) := by rw [List.getD_eq_getElem?_getD, List.getElem?_eq_getElem hM]; rfl
  exact ⟨rs[x.toNat], by rw [List.getElem?_map, List.getElem?_eq_getElem hr]; rfl, RA.2 _ _ _ (List.getElem?_eq_getElem hr) e, RR.2 x h0 h1⟩
theorem RowsAt.same {H H' : Hp} {rs : List Addr} {M : List (List (Option Int))} (h : RowsAt H rs M) (k : Same H H') : RowsAt H' rs M := ⟨h.1, fun i r row a b => k _ _ (h.2 i r row a b)⟩
theorem minD_of {K : PySem.W.Frag} {H : Hp} {p : Addr} {xs : List Int} {Q : VK} (hp : SqT K H p (xs.map V.int)) (h : ∀ u, MinO (· ∈ xs) u → Q (oV u) H) : rMinD K (.ref p) .non H Q := by
  refine ⟨p, _, rfl, .inr hp, fun e => ?_, .inr ⟨xs, rfl, fun n hn hm => h (some n) ⟨hn, hm⟩⟩⟩
  have : xs = [] := by simpa using e
  exact h none fun q hq => by rw [this] at hq; simp at hq
structure Look (H : Hp) (rl ra : Addr) (rs : List Addr) (M : List (List (Option Int))) (rks : List Int) (n : Int) (ts : List T3) : Prop where
  tab : H rl = some (.tup (rs.map V.ref))
  rows : RowsAt H rs M
  right : Rows ts n M
  rk : H ra = some (.lst (rks.map V.int))
  rln : rks.length = n.toNat
  web : GW n ts
theorem Look.same {H H' : Hp} {rl ra : Addr} {rs : List Addr} {M : List (List (Option Int))} {rks : List Int} {n : Int} {ts : List T3} (L : Look H rl ra rs M rks n ts) (k : Same H H') : Look H' rl ra rs M rks n ts := ⟨k _ _ L.tab, L.rows.same k, L.right, k _ _ L.rk, L.rln, L.web⟩
theorem Look.rank {H : Hp} {rl ra : Addr} {rs : List Addr} {M : List (List (Option Int))} {rks : List Int} {n : Int} {ts : List T3} (L : Look H rl ra rs M rks n ts) {x : Int} (h0 : 0 ≤ x) (h1 : x < n) : (rks.map V.int)[x.toNat]? = some (.int (rkf rks x)) := by
  have : x.toNat < rks.length := by rw [L.rln]; (first | lia | omega)
  rw [List.getElem?_map, List.getElem?_eq_getElem this]
  unfold rkf
  rw [List.getD_eq_getElem?_getD, List.getElem?_eq_getElem this]
  rfl
inductive spIsh_r (vs : List V) (H : Hp) (Q : VK) : Prop
  | mk : ∀ (rl ra : Addr) (rs : List Addr) (M : List (List (Option Int))) (rks : List Int) (n : Int) (ts : List T3) (h v : Int), (vs = [.ref rl, .ref ra, .int h, .int v]) → (Look H rl ra rs M rks n ts) → (0 ≤ h) → (h < n) → (0 ≤ v) → (v < n) → (∀ (b : Bool) (H' : Hp), Same H H' → (b = true ↔ HubOf ts (rkf rks) h v) → Q (.bl b) H') → spIsh_r vs H Q
noncomputable def spIsh : Sp := fun vs H Q _ => spIsh_r vs H Q
inductive spEbr_r (vs : List V) (H : Hp) (Q : VK) : Prop
  | mk : ∀ (wa rl ra : Addr) (rs : List Addr) (M : List (List (Option Int))) (rks : List Int) (n : Int) (ts : List T3) (v h : Int), (vs = [.ref wa, .ref rl, .int v, .int h]) → (WebAt H wa n ts) → (Look H rl ra rs M rks n ts) → (0 ≤ h) → (h < n) → (0 ≤ v) → (v < n) → (HubOf ts (rkf rks) h v) → (∀ (a : Addr) (e : En) (H' : Hp), Same H H' → H' a = some (.tup (eV e)) → e.h = h → EntOf ts n (rkf rks) v e → Q (.ref a) H') → spEbr_r vs H Q
noncomputable def spEbr : Sp := fun vs H Q _ => spEbr_r vs H Q
inductive spLbr_r (vs : List V) (H : Hp) (Q : VK) : Prop
  | mk : ∀ (wa rl ra : Addr) (rs : List Addr) (M : List (List (Option Int))) (rks : List Int) (n : Int) (ts : List T3) (v : Int), (vs = [.ref wa, .ref rl, .ref ra, .int v]) → (WebAt H wa n ts) → (Look H rl ra rs M rks n ts) → (0 ≤ v) → (v < n) → (∀ (a : Addr) (es : List En) (H' : Hp), Same H H' → LabAt H' a es → LabOf ts n (rkf rks) v es → Q (.ref a) H') → spLbr_r vs H Q
noncomputable def spLbr : Sp := fun vs H Q _ => spLbr_r vs H Q
section
variable {P : Program} {w : World} {K : PySem.W.Frag} {mg : Str → Option Value} {base : Heap}
theorem scIsh : FnScope ["rows", "ranks", "hub", "place"] ["rows", "ranks", "hub", "place"] (defScope sIsh) := ⟨rfl, rfl, rfl, by decide +kernel, rfl, by decide +kernel, by decide +kernel⟩
theorem ok_ish {f fB : Addr} {fd' fdB : FuncData} (F : Fun K "is_hub" "is_hub" sIsh f fd') (FB : Fun K "between_rows" "between_rows" sBwr fB fdB) (bB : Binds K fdB ["here", "there", "other"] []) (mB : mg "between_rows" = some (.ref fB)) (mRange : mg "range" = none) (mTuple : mg "tuple" = none) (mLen : mg "len" = none) (mAll : mg "all" = none) :
    FnOk P w K mg base CX0 2 f fd' ["rows", "ranks", "hub", "place"] spIsh := by
  have GB : FnOk P w K mg base CX0 1 fB fdB ["here", "there", "other"] spBwr := ok_bwr FB mRange mTuple mLen
  refine F.ok scIsh (fun vs H Q E h => ?_) (fun cdv A outer s H vs Q E hr h => ?_)
  · obtain ⟨rl, ra, rs, M, rks, n, ts, h, v, rfl, -⟩ := h
    rfl
  · obtain ⟨rl, ra, rs, M, rks, n, ts, h, v, rfl, L, h0, h1, v0, v1, k⟩ := h
    have G := L.web
    have hn24 := G.n24
    refine ⟨_, pss_cons (ps_if (pt_cmpR op_isN (pe_ix ix_tup (pe_ix ix_tup (pv 0) (pv 2) (fun _ _ => rfl)) (pv 3) (fun _ _ => rfl)) pe_non (nomark _)) (pss_one (ps_ret pe_bl)) pss_nil)
      (pss_one (ps_ret (pe_callB (call_all rfl) (by rfl) mAll (by decide +kernel) (pa_cons (pe_comp (own := ["other"]) (cn := ["ranks", "hub"]) (ci := [1, 2]) rfl (csc rfl rfl) ⟨rfl, rfl, rfl, rfl, rfl, rfl, trivial⟩ rfl
        (pi_tup (pe_call GB hr rfl mB FB.kp bB .nil pass0 (pa_cons (pe_ix ix_tup (pv 0) (pv 2) (fun _ _ => rfl)) (pa_cons (pe_ix ix_tup (pv 0) (pv 3) (fun _ _ => rfl)) (pa_cons (pv 3) pa_nil))))) (fun _ _ _ _ => pg_name (i := 0) (nd_of rfl) rfl (Or.inl rfl))
        (fun _ _ _ _ => pts_nil) (fun _ _ _ _ => pe_cmpR op_le (pe_ix ix_listC (pv 1) (pv 2) (fun _ _ => rfl)) (pe_ix ix_listC (pv 1) (pv 0) (fun _ _ => rfl)) (nomark _))) pa_nil)))), ?_⟩
    obtain ⟨rh, gh, hh, Lh⟩ := L.rows.at L.right h0 h1
    obtain ⟨rv, gv, hv, Lv⟩ := L.rows.at L.right v0 v1
    have lhv := Lh.len v v0 v1
    refine ⟨_, rfl, _, rfl, rl, _, _, .ref rh, rfl, rfl, SqT.of L.tab, atI_in h0 gh, _, rfl, rh, _, _, oV (fnl (M.getD h.toNat []) v), rfl, rfl, SqT.of hh, atI_in v0 (Lens_get Lh v0 v1), rfl, _, rfl, ?_⟩
    rw [oV_non]
    cases ed : fnl (M.getD h.toNat []) v with
    | none =>
      rw [ed] at lhv
      refine iteT ?_
      exact k false H (Same.refl _) ⟨(fun z => by cases z), (fun z => by obtain ⟨d, hd⟩ := z.1; exact absurd hd.1 (lhv d))⟩
    | some d =>
      rw [ed] at lhv
      refine iteF ?_
      refine ⟨_, rfl, _, rfl, rl, _, _, .ref rh, rfl, rfl, SqT.of L.tab, atI_in h0 gh, _, rfl, _, rfl, rl, _, _, .ref rv, rfl, rfl, SqT.of L.tab, atI_in v0 gv, _, rfl, rh, rv, n, ts, h, v, _, _, rfl, G, h0, h1, v0, v1, hh, hv, Lh, Lv, fun l xs H1 s1 hl hrise hmem => ?_⟩
      have hxr : ∀ p ∈ xs, 0 ≤ p ∧ p < n := fun p hp => by
        obtain ⟨a, b, ia, -⟩ := (hmem p).mp hp
        exact ia.1.in_ G h0 h1
      have hxl : xs.length ≤ 24 := by
        have := nd_len (n := n.toNat) (l := xs) (hrise.imp fun z => by first | lia | omega) fun x hx => by have := hxr x hx; (first | lia | omega)
        (first | lia | omega)
      refine ⟨l, rfl, ⟨_, SqT.of hl⟩, [.ref ra, .int h], rfl, fun D hD => ?_⟩
      have hra := s1 _ _ L.rk
      refine comp_tup (a := l) (xs := xs.map V.int) (fun i ys H4 => ys = ((xs.take i).map fun p => decide (rkf rks h ≤ rkf rks p)).map V.bl ∧ H4 = upd H1 D (.lst ys)) ⟨rfl, rfl⟩ (fun i ys H4 z => ?_) (fun i ys H4 z => ?_) (fun i x ys H4 hx z => ?_) (fun ys H4 z => ?_)
      · obtain ⟨_, rfl⟩ := z
        exact SqT.of (by rw [upd_ne (ne_of_none hl hD)]; exact hl)
      · obtain ⟨rfl, -⟩ := z
        rw [List.length_map, List.length_map, List.length_take]
        exact small_line om
      · obtain ⟨rfl, rfl⟩ := z
        obtain ⟨p, hp, rfl⟩ : ∃ p, xs[i]? = some p ∧ V.int p = x := by
          rw [List.getElem?_map] at hx
          cases e : xs[i]? with
          | none => rw [e] at hx; cases hx
          | some p => rw [e] at hx; exact ⟨p, rfl, Option.some.inj hx⟩
        have hpr := hxr p (List.mem_of_getElem? hp)
        have hra4 := same_laid (o := .lst (((xs.take i).map fun p => decide (rkf rks h ≤ rkf rks p)).map V.bl)) hD _ _ hra
        refine ⟨⟨rfl, rfl⟩, ?_⟩
        refine tyes ?_
        refine ⟨_, rfl, _, rfl, ra, _, _, .int (rkf rks h), rfl, rfl, SqL.of hra4, atI_in h0 (L.rank h0 h1), _, rfl, _, rfl, ra, _, _, .int (rkf rks p), rfl, rfl, SqL.of hra4, atI_in hpr.1 (L.rank hpr.1 hpr.2), _, _, rfl, rfl, upd_same, ?_, upd_upd⟩
        rw [List.take_add_one, hp, List.map_append, List.map_append]; rfl
      · obtain ⟨rfl, rfl⟩ := z
        rw [List.length_map, List.take_of_length_le (Nat.le_refl _)]
        refine ⟨D, _, rfl, SqL.of upd_same, ?_⟩
        refine k _ _ (s1.trans (same_laid hD)) ⟨fun z => ⟨⟨d, lhv⟩, fun p hp => ?_⟩, fun z => List.all_eq_true.mpr fun b hb => ?_⟩
        · have := List.all_eq_true.mp z _ (List.mem_map.mpr ⟨p, (hmem p).mpr hp, rfl⟩)
          exact of_decide_eq_true this
        · obtain ⟨p, hp, rfl⟩ := List.mem_map.mp hb
          exact decide_eq_true (z.2 p ((hmem p).mp hp))
theorem scEbr : FnScope ["web", "rows", "place", "hub", "up", "down"] ["web", "rows", "place", "hub"] (defScope sEbr) := ⟨rfl, rfl, rfl, by decide +kernel, rfl, by decide +kernel, by decide +kernel⟩
theorem ok_ebr {f fN fT : Addr} {fd' fdN fdT : FuncData} (F : Fun K "entry_by_rows" "entry_by_rows" sEbr f fd') (FN : Fun K "next_by_row" "next_by_row" sNbr fN fdN) (bN : Binds K fdN ["web", "one", "there"] []) (mN : mg "next_by_row" = some (.ref fN))
    (FT : Fun K "ties_at" "ties_at" sTies fT fdT) (bT : Binds K fdT ["web", "place"] []) (mT : mg "ties_at" = some (.ref fT)) (mSorted : mg "sorted" = none) (mTuple : mg "tuple" = none) (mMin : mg "min" = none) : FnOk P w K mg base CX0 4 f fd' ["web", "rows", "place", "hub"] spEbr := by
  have GN : FnOk P w K mg base CX0 3 fN fdN ["web", "one", "there"] spNbr := ok_nbr FN FT bT mT mSorted mTuple
  refine F.ok scEbr (fun vs H Q E h => ?_) (fun cdv A outer s H vs Q E hr h => ?_)
  · obtain ⟨wa, rl, ra, rs, M, rks, n, ts, v, h, rfl, -⟩ := h
    rfl
  · obtain ⟨wa, rl, ra, rs, M, rks, n, ts, v, h, rfl, W, L, h0, h1, v0, v1, hh, k⟩ := h
    have hu := hu_of hr
    refine ⟨_, pss_cons (ps_set (i := 4) scEbr.nd rfl (Or.inl rfl) (pe_minD rfl hu (by rfl) mMin (pa_cons (pe_call GN hr rfl mN FN.kp bN .nil pass0 (pa_cons (pv 0) (pa_cons (pv 2) (pa_cons (pe_ix ix_tup (pv 1) (pv 3) (fun _ _ => rfl)) pa_nil)))) pa_nil) pe_non))
      (pss_cons (ps_set (i := 5) scEbr.nd rfl (Or.inl rfl) (pe_minD rfl hu (by rfl) mMin (pa_cons (pe_call GN hr rfl mN FN.kp bN .nil pass0 (pa_cons (pv 0) (pa_cons (pv 3) (pa_cons (pe_ix ix_tup (pv 1) (pv 2) (fun _ _ => rfl)) pa_nil)))) pa_nil) pe_non))
      (pss_one (ps_ret (pe_tup (pa_cons (pv 3) (pa_cons (pe_ix ix_tup (pe_ix ix_tup (pv 1) (pv 2) (fun _ _ => rfl)) (pv 3) (fun _ _ => rfl)) (pa_cons (pv 4) (pa_cons (pv 5) pa_nil)))))))), ?_⟩
    obtain ⟨rh, gh, ha, Lh⟩ := L.rows.at L.right h0 h1
    obtain ⟨rv, gv, hv, Lv⟩ := L.rows.at L.right v0 v1
    refine ⟨_, rfl, _, rfl, _, rfl, _, rfl, rl, _, _, .ref rh, rfl, rfl, SqT.of L.tab, atI_in h0 gh, wa, rh, n, ts, v, h, _, rfl, W, v0, v1, h0, h1, ha, Lh, fun l1 xs H1 s1 hl1 _ hm1 => ?_⟩
    refine ⟨_, rfl, ?_⟩
    unfold tC
    refine minD_of (SqT.of hl1) fun u hu1 => ?_
    have L1 := L.same s1
    refine ⟨_, rfl, _, rfl, _, rfl, _, rfl, rl, _, _, .ref rv, rfl, rfl, SqT.of L1.tab, atI_in v0 gv, wa, rv, n, ts, h, v, _, rfl, W.keep s1, h0, h1, v0, v1, s1 _ _ hv, Lv, fun l2 ys H2 s2 hl2 _ hm2 => ?_⟩
    refine ⟨_, rfl, ?_⟩
    dsimp only
    refine minD_of (SqT.of hl2) fun d hd1 => ?_
    have s12 := s1.trans s2
    have L2' := L.same s12
    obtain ⟨dd, hdd⟩ := hh.1
    have lv := Len.uniq (Lv.len h h0 h1) (show Len ts v h (some dd) from WM.IsD.symm hdd)
    refine ⟨_, rfl, _, rfl, _, rfl, rl, _, _, .ref rv, rfl, rfl, SqT.of L2'.tab, atI_in v0 gv, _, rfl, rv, _, _, .int dd, rfl, rfl, SqT.of (s12 _ _ hv), atI_in h0 (by rw [Lens_get Lv h0 h1, lv]; rfl), _, rfl, _, rfl, by show 4 ≤ sizeLine; decide, fun a ha' => ?_⟩
    exact k a ⟨h, dd, u, d⟩ _ (s12.trans (same_laid ha')) upd_same rfl ⟨⟨h0, h1⟩, hh, WM.IsD.symm hdd, hu1.congr hm1, hd1.congr hm2⟩
end
noncomputable def RkOf (n : Int) (os : List Int) (rk : Int → Int) : Prop := ∀ p, 0 ≤ p → p < n → 0 ≤ rk p ∧ os[(rk p).toNat]? = some p
noncomputable def LabsOf (ts : List T3) (n : Int) (rk : Int → Int) (ess : List (List En)) : Prop := ess.length = n.toNat ∧ ∀ (i : Nat) (es : List En), ess[i]? = some es → LabOf ts n rk i es
inductive spByo_r (PT : Addr) (vs : List V) (H : Hp) (Q : VK) : Prop
  | mk : ∀ (wa p : Addr) (n : Int) (ts : List T3) (os : List Int), (vs = [.ref wa, .ref p]) → (WebAt H wa n ts) → (H p = some (.tup (os.map V.int))) → (Ordr n os) → (Tb H PT) → (∀ (l : Addr) (ess : List (List En)) (rk : Int → Int) (H' : Hp), SmT H H' → Tb H' PT → LabsAt H' l ess → RkOf n os rk → LabsOf ts n rk ess → Q (.ref l) H') → spByo_r PT vs H Q
noncomputable def spByo (PT : Addr) : Sp := fun vs H Q _ => spByo_r PT vs H Q
theorem Ordr.mem {n : Int} {os : List Int} (O : Ordr n os) {p : Int} (h0 : 0 ≤ p) (h1 : p < n) : p ∈ os := by
  apply Classical.byContradiction
  intro hn
  have := nd_len (n := n.toNat) (l := p :: os) (List.nodup_cons.mpr ⟨hn, O.nd⟩) fun x hx => by
    rcases List.mem_cons.mp hx with rfl | hx
    · (first | lia | omega)
    · have := O.rng x hx; (first | lia | omega)
  rw [List.length_cons, O.ln] at this
  (first | lia | omega)
section
variable {P : Program} {w : World} {K : PySem.W.Frag} {mg : Str → Option Value} {base : Heap} {PT : Addr}
theorem scLbr : FnScope ["web", "rows", "ranks", "place", "hubs"] ["web", "rows", "ranks", "place"] (defScope sLbr) := ⟨rfl, rfl, rfl, by decide +kernel, rfl, by decide +kernel, by decide +kernel⟩
theorem ok_lbr {f fI fE : Addr} {fd' fdI fdE : FuncData} (F : Fun K "label_by_ranks" "label_by_ranks" sLbr f fd') (FI : Fun K "is_hub" "is_hub" sIsh fI fdI) (bI : Binds K fdI ["rows", "ranks", "hub", "place"] []) (mI : mg "is_hub" = some (.ref fI)) (GI : FnOk P w K mg base CX0 4 fI fdI ["rows", "ranks", "hub", "place"] spIsh)
    (FE : Fun K "entry_by_rows" "entry_by_rows" sEbr fE fdE) (bE : Binds K fdE ["web", "rows", "place", "hub"] []) (mE : mg "entry_by_rows" = some (.ref fE)) (GE : FnOk P w K mg base CX0 4 fE fdE ["web", "rows", "place", "hub"] spEbr) (mRange : mg "range" = none) (mTuple : mg "tuple" = none) :
    FnOk P w K mg base CX0 5 f fd' ["web", "rows", "ranks", "place"] spLbr := by
  refine F.ok scLbr (fun vs H Q E h => ?_) (fun cdv A outer s H vs Q E hr h => ?_)
  · obtain ⟨wa, rl, ra, rs, M, rks, n, ts, v, rfl, -⟩ := h
    rfl
  · obtain ⟨wa, rl, ra, rs, M, rks, n, ts, v, rfl, W, L, v0, v1, k⟩ := h
    obtain ⟨ta, tys, hwa, _, _, G⟩ := id W
    have hn1 := G.n1
    have hn24 := G.n24
    refine ⟨_, pss_cons (ps_setC (i := 4) (own := ["hub"]) (cn := ["rows", "ranks", "place"]) (ci := [1, 2, 3]) scLbr.nd rfl (Or.inl rfl) rfl (csc rfl rfl) ⟨rfl, rfl, rfl, rfl, rfl, rfl, rfl, rfl, rfl, trivial⟩ rfl
        (pi_range1 rfl mRange (pa_cons (pe_ix ix_tup (pv 0) pe_int (fun _ _ => rfl)) pa_nil)) (fun _ _ _ _ => pg_name (i := 0) (nd_of rfl) rfl (Or.inl rfl))
        (fun _ _ _ _ => pts_one (pt_val (pe_call GI hr rfl mI FI.kp bI .nil pass0 (pa_cons (pv 1) (pa_cons (pv 2) (pa_cons (pv 0) (pa_cons (pv 3) pa_nil))))))) (fun _ _ _ _ => pv 0))
      (pss_one (ps_ret (pe_callTy call_tuple_of (by rfl) mTuple (by decide +kernel) (pa_cons (pe_comp (own := ["hub"]) (cn := ["web", "rows", "place"]) (ci := [0, 1, 3]) rfl (csc rfl rfl) ⟨rfl, rfl, rfl, rfl, rfl, rfl, rfl, rfl, rfl, trivial⟩ rfl
        (pi_list (pv 4)) (fun _ _ _ _ => pg_name (i := 0) (nd_of rfl) rfl (Or.inl rfl)) (fun _ _ _ _ => pts_nil)
        (fun _ _ _ _ => pe_call GE hr rfl mE FE.kp bE .nil pass0 (pa_cons (pv 1) (pa_cons (pv 2) (pa_cons (pv 3) (pa_cons (pv 0) pa_nil)))))) pa_nil)))), ?_⟩
    refine ⟨_, rfl, wa, _, _, _, rfl, rfl, SqT.of hwa, rfl, n, rfl, om, om, [.ref rl, .ref ra, .int v], rfl, fun D hD => ?_⟩
    refine comp_range (lo := 0) (n := n.toNat) (fun q ys H3 => q ≤ n.toNat ∧ (∃ hs : List Int, ys = hs.map V.int ∧ hs.Pairwise (· < ·) ∧ ∀ p, p ∈ hs ↔ (0 ≤ p ∧ p < (q : Int)) ∧ HubOf ts (rkf rks) p v) ∧ Same H H3 ∧ H3 D = some (.lst ys)) ⟨Nat.zero_le _, ⟨[], rfl, List.Pairwise.nil, fun p => ⟨fun z => by simp at z, fun z => absurd z.1 om⟩⟩, same_laid hD, upd_same⟩ (fun q ys H3 z => ?_) (fun q ys H3 hq z => ?_) (fun ys H3 z => ?_)
    · obtain ⟨hq, ⟨hs, rfl, hp, hm⟩, -⟩ := z
      rw [List.length_map]
      have := nd_len (n := q) (l := hs) (hp.imp fun z => by first | lia | omega) fun x hx => by have := ((hm x).mp hx).1; (first | lia | omega)
      exact small_line om
    · obtain ⟨_, ⟨hs, rfl, hp, hm⟩, s3, hD3⟩ := z
      rw [Int.zero_add]
      refine ⟨⟨rfl, rfl⟩, ?_⟩
      refine ⟨_, rfl, _, rfl, _, rfl, _, rfl, rl, ra, rs, M, rks, n, ts, q, v, rfl, L.same s3, om, om, v0, v1, fun b H4 s4 hb => ?_⟩
      refine ⟨_, rfl, ?_⟩
      refine ite2 (fun c => ?_) (fun c => ?_)
      · refine ⟨_, rfl, s4 _ _ hD3, hq, ⟨hs ++ [(q : Int)], by rw [List.map_append]; rfl, List.pairwise_append.mpr ⟨hp, List.pairwise_singleton _ _, fun a ha b hb' => ?_⟩, fun p => ?_⟩, same_chg (s3.trans s4) hD, upd_same⟩
        · have : b = (q : Int) := by simpa using hb'
          have := ((hm a).mp ha).1
          (first | lia | omega)
        · rw [List.mem_append, hm]
          constructor
          · rintro (⟨a, b⟩ | a)
            · exact ⟨om, b⟩
            · have : p = (q : Int) := by simpa using a
              subst this
              exact ⟨om, hb.mp c⟩
          · rintro ⟨a, b⟩
            by_cases e : p = (q : Int)
            · exact .inr (by simpa using e)
            · exact .inl ⟨om, b⟩
      · refine ⟨hq, ⟨hs, rfl, hp, fun p => ?_⟩, s3.trans s4, s4 _ _ hD3⟩
        rw [hm]
        constructor
        · rintro ⟨a, b⟩; exact ⟨om, b⟩
        · rintro ⟨a, b⟩
          refine ⟨?_, b⟩
          have : p ≠ (q : Int) := fun z => by subst z; exact c (hb.mpr b)
          (first | lia | omega)
    · obtain ⟨_, ⟨hs, rfl, hp, hm⟩, s3, hD3⟩ := z
      have hsl : hs.length ≤ 24 := by
        have := nd_len (n := n.toNat) (l := hs) (hp.imp fun z => by first | lia | omega) fun x hx => by have := ((hm x).mp hx).1; (first | lia | omega)
        (first | lia | omega)
      refine ⟨_, rfl, D, rfl, ⟨_, SqL.of hD3⟩, [.ref wa, .ref rl, .int v], rfl, fun D2 hD2 => ?_⟩
      refine comp_list (a := D) (xs := hs.map V.int) (fun i ys H5 => i ≤ hs.length ∧ (∃ (as : List Addr) (es : List En), ys = as.map V.ref ∧ EnsAt H5 as es ∧ es.map (·.h) = hs.take i ∧ ∀ e ∈ es, EntOf ts n (rkf rks) v e) ∧ Same H3 H5 ∧ H5 D2 = some (.lst ys)) ⟨Nat.zero_le _, ⟨[], [], rfl, ⟨rfl, fun i a z => by simp at z⟩, rfl, by simp⟩, same_laid hD2, upd_same⟩ (fun i ys H5 z => ?_) (fun i ys H5 z => ?_) (fun i x ys H5 hx z => ?_) (fun ys H5 z => ?_)
      · exact SqL.of (z.2.2.1 _ _ hD3)
      · obtain ⟨_, ⟨as, es, rfl, EA, em, _⟩, -⟩ := z
        have := congrArg List.length em
        rw [List.length_map, List.length_take] at this
        rw [List.length_map, EA.1]
        exact small_line om
      · obtain ⟨_, ⟨as, es, rfl, EA, em, he⟩, s5, hD5⟩ := z
        obtain ⟨p, hpi, rfl⟩ : ∃ p, hs[i]? = some p ∧ V.int p = x := by
          rw [List.getElem?_map] at hx
          cases e : hs[i]? with
          | none => rw [e] at hx; cases hx
          | some p => rw [e] at hx; exact ⟨p, rfl, Option.some.inj hx⟩
        have hpm := (hm p).mp (List.mem_of_getElem? hpi)
        have s35 := s3.trans s5
        refine ⟨⟨rfl, rfl⟩, ?_⟩
        refine tyes ?_
        refine ⟨_, rfl, _, rfl, _, rfl, _, rfl, wa, rl, ra, rs, M, rks, n, ts, v, p, rfl, W.keep s35, L.same s35, om, om, v0, v1, hpm.2, fun a e H6 s6 ha ep he' => ?_⟩
        refine ⟨s6 _ _ hD5, (List.getElem?_eq_some_iff.mp hpi).1, ⟨as ++ [a], es ++ [e], by rw [List.map_append]; rfl, (EA.keep fun b zs z => ?_).snoc ?_, ?_, fun x hx' => ?_⟩, same_chg (s5.trans s6) hD2, upd_same⟩
        · rw [upd_ne (ne_of z hD5 (by intro y; cases y))]; exact s6 _ _ z
        · rw [upd_ne (ne_of ha (s6 _ _ hD5) (by intro y; cases y))]; exact ha
        · rw [List.map_append, em, List.take_add_one, hpi, ← ep]; rfl
        · rcases List.mem_append.mp hx' with z | z
          · exact he x z
          · have : x = e := by simpa using z
            subst this; exact he'
      · obtain ⟨_, ⟨as, es, rfl, EA, em, he⟩, s5, hD5⟩ := z
        rw [List.length_map, List.take_of_length_le (Nat.le_refl _)] at em
        have hel : es.length ≤ 24 := by have := congrArg List.length em; rw [List.length_map] at this; (first | lia | omega)
        refine ⟨D2, _, rfl, .inl ⟨SqL.of hD5, fun l hl => ?_⟩⟩
        refine k l es _ ((s3.trans s5).trans (same_laid hl)) ⟨as, upd_same, EA.keep fun b zs z => same_laid hl _ _ z, om⟩ ⟨?_, he, fun h h0 h1 z => ?_, hel⟩
        · have := hp
          rw [← em, List.pairwise_map] at this
          exact this
        · have : h ∈ es.map (·.h) := by rw [em]; exact (hm h).mpr ⟨om, z⟩
          obtain ⟨e, e1, e2⟩ := List.mem_map.mp this
          exact ⟨e, e1, e2⟩
theorem scByo : FnScope ["web", "order", "rows", "ranks"] ["web", "order"] (defScope sByo) := ⟨rfl, rfl, rfl, by decide +kernel, rfl, by decide +kernel, by decide +kernel⟩
theorem ok_byo {f fO fL fB : Addr} {fd' fdO fdL fdB : FuncData} (F : Fun K "by_order" "by_order" sByo f fd') (FO : Fun K "is_order" "is_order" sOrd fO fdO) (bO : Binds K fdO ["web", "thing"] []) (mO : mg "is_order" = some (.ref fO)) (GO : FnOk P w K mg base CX0 5 fO fdO ["web", "thing"] spOrd)
    (FL : Fun K "lengths" "lengths" sLens fL fdL) (bL : Binds K fdL ["web"] []) (mL : mg "lengths" = some (.ref fL)) (GL : FnOk P w K mg base CX0 5 fL fdL ["web"] (spLens PT))
    (FB : Fun K "label_by_ranks" "label_by_ranks" sLbr fB fdB) (bB : Binds K fdB ["web", "rows", "ranks", "place"] []) (mB : mg "label_by_ranks" = some (.ref fB)) (GB : FnOk P w K mg base CX0 5 fB fdB ["web", "rows", "ranks", "place"] spLbr) (mRange : mg "range" = none) (mTuple : mg "tuple" = none) :
    FnOk P w K mg base CX0 6 f fd' ["web", "order"] (spByo PT) := by
  refine F.ok scByo (fun vs H Q E h => ?_) (fun cdv A outer s H vs Q E hr h => ?_)
  · obtain ⟨wa, p, n, ts, os, rfl, -⟩ := h
    rfl
  · obtain ⟨wa, p, n, ts, os, rfl, W, hp, O, T, k⟩ := h
    obtain ⟨ta, tys, hwa, _, _, G⟩ := id W
    have hn1 := G.n1
    have hn24 := G.n24
    refine ⟨_, pss_cons (ps_if (pt_not (pt_val (pe_call GO hr rfl mO FO.kp bO .nil pass0 (pa_cons (pv 0) (pa_cons (pv 1) pa_nil))))) (pss_one ps_no) pss_nil)
      (pss_cons (ps_set (i := 2) scByo.nd rfl (Or.inr rfl) (pe_call GL hr rfl mL FL.kp bL .nil pass0 (pa_cons (pv 0) pa_nil)))
      (pss_cons (ps_set (i := 3) scByo.nd rfl (Or.inr rfl) (pe_comp (own := ["place"]) (cn := ["order"]) (ci := [1]) rfl (csc rfl rfl) ⟨rfl, rfl, rfl, trivial⟩ rfl
        (pi_range1 rfl mRange (pa_cons (pe_ix ix_tup (pv 0) pe_int (fun _ _ => rfl)) pa_nil)) (fun _ _ _ _ => pg_name (i := 0) (nd_of rfl) rfl (Or.inl rfl)) (fun _ _ _ _ => pts_nil)
        (fun _ _ _ _ => pe_bmT PySem.F.slot_tuple_index PySem.F.type_tuple_index mt_indexC (pv 1) (pa_cons (pv 0) pa_nil))))
      (pss_one (ps_ret (pe_callTy call_tuple_of (by rfl) mTuple (by decide +kernel) (pa_cons (pe_comp (own := ["place"]) (cn := ["web", "rows", "ranks"]) (ci := [0, 2, 3]) rfl (csc rfl rfl) ⟨rfl, rfl, rfl, rfl, rfl, rfl, rfl, rfl, rfl, trivial⟩ rfl
        (pi_range1 rfl mRange (pa_cons (pe_ix ix_tup (pv 0) pe_int (fun _ _ => rfl)) pa_nil)) (fun _ _ _ _ => pg_name (i := 0) (nd_of rfl) rfl (Or.inl rfl)) (fun _ _ _ _ => pts_nil)
        (fun _ _ _ _ => pe_call GB hr rfl mB FB.kp bB .nil pass0 (pa_cons (pv 1) (pa_cons (pv 2) (pa_cons (pv 3) (pa_cons (pv 0) pa_nil)))))) pa_nil)))))), ?_⟩
    refine ⟨_, rfl, _, rfl, wa, p, n, ts, os, rfl, W, hp, O, fun H0 s0 => ?_⟩
    refine ⟨_, rfl, iteF ?_⟩
    refine ⟨_, rfl, wa, n, ts, rfl, W.keep s0, T.same s0, fun rl rs M H1 sm1 T1 hrl RA RR => ?_⟩
    have sm01 : SmT H H1 := (SmT.of s0).trans sm1
    have hwa1 : H1 wa = some (.tup [.int n, .ref ta]) := sm01.get hwa (by intro ps z; cases z)
    have hp1 : H1 p = some (.tup (os.map V.int)) := sm01.get hp (by intro ps z; cases z)
    have W1 : WebAt H1 wa n ts := W.smT sm01
    refine ⟨_, rfl, wa, _, _, _, rfl, rfl, SqT.of hwa1, rfl, n, rfl, om, om, [.ref p], rfl, fun D hD => ?_⟩
    refine comp_range (lo := 0) (n := n.toNat) (fun q ys H3 => C3 (q ≤ n.toNat) ((∃ rk : List Int, ys = rk.map V.int ∧ rk.length = q ∧ ∀ (j : Nat) (x : Int), rk[j]? = some x → 0 ≤ x ∧ os[x.toNat]? = some (j : Int))) (H3 = upd H1 D (.lst ys))) ⟨Nat.zero_le _, ⟨[], rfl, rfl, fun j x z => by simp at z⟩, rfl⟩ (fun q ys H3 z => ?_) (fun q ys H3 hq z => ?_) (fun ys H3 z => ?_)
    · obtain ⟨_, ⟨rk, rfl, hl, _⟩, -⟩ := z
      rw [List.length_map]
      exact small_line om
    · obtain ⟨_, ⟨rk, rfl, hl, hrk⟩, rfl⟩ := z
      rw [Int.zero_add]
      obtain ⟨i, hi, ei⟩ := List.getElem_of_mem (O.mem (p := (q : Int)) om om)
      have hoi : os[i]? = some (q : Int) := by rw [List.getElem?_eq_getElem hi, ei]
      have hp3 := same_laid (o := .lst (rk.map V.int)) hD _ _ hp1
      refine ⟨⟨rfl, rfl⟩, ?_⟩
      refine tyes ?_
      refine ⟨_, rfl, ⟨p, _, rfl, hp3⟩, _, rfl, p, os, i, q, rfl, rfl, SqT.of hp3, hoi, fun j hj e => ?_, upd_same, hq, ⟨rk ++ [(i : Int)], by rw [List.map_append]; rfl, by rw [List.length_append, hl]; rfl, fun j x hx => ?_⟩, upd_upd⟩
      · obtain ⟨hj', ej⟩ := List.getElem?_eq_some_iff.mp e
        exact List.pairwise_iff_getElem.mp (List.nodup_iff_pairwise_ne.mp O.nd) j i hj' hi hj (by rw [ej, ei])
      · by_cases c : j < rk.length
        · rw [List.getElem?_append_left c] at hx
          exact hrk j x hx
        · have hj : j = q := by
            have := (List.getElem?_eq_some_iff.mp hx).1
            rw [List.length_append] at this
            simp at this; (first | lia | omega)
          subst hj
          rw [List.getElem?_append_right om, hl, Nat.sub_self] at hx
          have : (i : Int) = x := by simpa using hx
          subst this
          exact ⟨om, hoi⟩
    · obtain ⟨_, ⟨rk, rfl, hl, hrk⟩, rfl⟩ := z
      have sD : Same H1 (upd H1 D (.lst (rk.map V.int))) := same_laid hD
      have hDr : (upd H1 D (.lst (rk.map V.int))) D = some (.lst (rk.map V.int)) := upd_same
      generalize upd H1 D (.lst (rk.map V.int)) = H4 at sD hDr ⊢
      have L : Look H4 rl D rs M rk n ts := ⟨sD _ _ hrl, RA.same sD, RR, hDr, hl, G⟩
      have W4 := W1.keep sD
      refine ⟨_, rfl, wa, _, _, _, rfl, rfl, SqT.of (sD _ _ hwa1), rfl, n, rfl, om, om, [.ref wa, .ref rl, .ref D], rfl, fun D2 hD2 => ?_⟩
      refine comp_range (lo := 0) (n := n.toNat) (fun q ys H5 => C4 (q ≤ n.toNat) ((∃ (as : List Addr) (ess : List (List En)), ys = as.map V.ref ∧ as.length = q ∧ ess.length = q ∧ (∀ (i : Nat) (a : Addr), as[i]? = some a → ∃ es, ess[i]? = some es ∧ LabAt H5 a es) ∧ ∀ (i : Nat) (es : List En), ess[i]? = some es → LabOf ts n (rkf rk) i es)) (Same H4 H5) (H5 D2 = some (.lst ys))) ⟨Nat.zero_le _, ⟨[], [], rfl, rfl, rfl, fun i a z => by simp at z, fun i a z => by simp at z⟩, same_laid hD2, upd_same⟩ (fun q ys H5 z => ?_) (fun q ys H5 hq z => ?_) (fun ys H5 z => ?_)
      · obtain ⟨_, ⟨as, ess, rfl, h1, _⟩, -⟩ := z
        rw [List.length_map]
        exact small_line om
      · obtain ⟨_, ⟨as, ess, rfl, h1, h2, h3, h4⟩, s5, hD5⟩ := z
        rw [Int.zero_add]
        refine ⟨⟨rfl, rfl⟩, ?_⟩
        refine tyes ?_
        refine ⟨_, rfl, _, rfl, _, rfl, _, rfl, wa, rl, D, rs, M, rk, n, ts, q, rfl, W4.keep s5, L.same s5, om, om, fun a es H6 s6 la lo => ?_⟩
        refine ⟨s6 _ _ hD5, hq, ⟨as ++ [a], ess ++ [es], by rw [List.map_append]; rfl, by rw [List.length_append, h1]; rfl, by rw [List.length_append, h2]; rfl, fun i b hb => ?_, fun i es' he => ?_⟩, same_chg (s5.trans s6) hD2, upd_same⟩
        · have keep : ∀ c zs, H6 c = some (.tup zs) → (upd H6 D2 (.lst (as.map V.ref ++ [.ref a]))) c = some (.tup zs) := fun c zs z => by rw [upd_ne (ne_of z (s6 _ _ hD5) (by intro y; cases y))]; exact z
          by_cases c : i < as.length
          · rw [List.getElem?_append_left c] at hb
            obtain ⟨es', e1, e2⟩ := h3 i b hb
            exact ⟨es', by rw [List.getElem?_append_left om]; exact e1, (e2.same s6).keep keep⟩
          · have hi : i = q := by
              have := (List.getElem?_eq_some_iff.mp hb).1
              rw [List.length_append] at this
              simp at this; (first | lia | omega)
            subst hi
            rw [List.getElem?_append_right om, h1, Nat.sub_self] at hb
            have : a = b := by simpa using hb
            subst this
            exact ⟨es, by rw [List.getElem?_append_right om, h2, Nat.sub_self]; rfl, la.keep keep⟩
        · by_cases c : i < ess.length
          · rw [List.getElem?_append_left c] at he
            exact h4 i es' he
          · have hi : i = q := by
              have := (List.getElem?_eq_some_iff.mp he).1
              rw [List.length_append] at this
              simp at this; (first | lia | omega)
            subst hi
            rw [List.getElem?_append_right om, h2, Nat.sub_self] at he
            have : es = es' := by simpa using he
            subst this
            exact lo
      · obtain ⟨_, ⟨as, ess, rfl, h1, h2, h3, h4⟩, s5, hD5⟩ := z
        refine ⟨D2, _, rfl, .inl ⟨SqL.of hD5, fun l hl' => ?_⟩⟩
        have s6 : Same H1 (upd H5 l (.tup (as.map V.ref))) := (sD.trans s5).trans (same_laid hl')
        refine k l ess (rkf rk) _ (sm01.trans (SmT.of s6)) (T1.same s6) ⟨as, upd_same, om, fun i a ha => ?_⟩ (fun p h0 h1' => ?_) ⟨h2, h4⟩
        · obtain ⟨es, e1, e2⟩ := h3 i a ha
          exact ⟨es, e1, e2.same (same_laid hl')⟩
        · have hlt : p.toNat < rk.length := by first | lia | omega
          have e : rk[p.toNat]? = some (rkf rk p) := by
            unfold rkf
            rw [List.getD_eq_getElem?_getD, List.getElem?_eq_getElem hlt]; rfl
          obtain ⟨a, b⟩ := hrk _ _ e
          exact ⟨a, by rw [b, Int.toNat_of_nonneg h0]⟩
end
theorem erase_map : ∀ (l : List Int) (k : Nat), (l.map V.int).eraseIdx k = (l.eraseIdx k).map V.int
  | [], _ => rfl
  | _ :: _, 0 => rfl
  | x :: r, k + 1 => by
    show V.int x :: (r.map V.int).eraseIdx k = V.int x :: (r.eraseIdx k).map V.int
    rw [erase_map r k]
theorem erase_perm : ∀ {l : List Int} {k : Nat} (h : k < l.length), (l[k] :: l.eraseIdx k).Perm l
  | [], _, h => absurd h (Nat.not_lt_zero _)
  | _ :: _, 0, _ => List.Perm.refl _
  | x :: r, k + 1, h => by
    have hk : k < r.length := by simpa using h
    show (r[k] :: x :: r.eraseIdx k).Perm (x :: r)
    exact (List.Perm.swap x r[k] _).trans ((erase_perm hk).cons x)
inductive spOrder_r (vs : List V) (H : Hp) (Q : VK) : Prop
  | mk : ∀ (t : Addr) (N : Nat) (n : Int), (vs = [.ref t, .int n]) → (TapeAt H t N) → (N < 900000) → (1 ≤ n) → (n ≤ 24) → (∀ (l : Addr) (os : List Int) (H' : Hp), H' l = some (.tup (os.map V.int)) → Ordr n os → TapeAt H' t (N + 24) → Sm t H H' → Q (.ref l) H') → spOrder_r vs H Q
noncomputable def spOrder : Sp := fun vs H Q _ => spOrder_r vs H Q
section
variable {P : Program} {w : World} {K : PySem.W.Frag} {mg : Str → Option Value} {base : Heap}
theorem scOrder : FnScope ["_law_tape_here", "_law_n_here", "_law_left", "_law_found", "_law_k"] ["_law_tape_here", "_law_n_here"] (defScope sOrder) := ⟨rfl, rfl, rfl, by decide +kernel, rfl, by decide +kernel, by decide +kernel⟩
theorem ok_order {f fD : Addr} {fd' fdD : FuncData} (F : Fun K "_law_order" "_law_order" sOrder f fd') (FD : Fun K "_law_draw" "_law_draw" sDraw fD fdD) (bD : Binds K fdD ["_law_tape_here", "_law_many"] []) (mD : mg "_law_draw" = some (.ref fD))
    (mLen : mg "len" = none) (mRange : mg "range" = none) (mTuple : mg "tuple" = none) (mList : mg "list" = none) : FnOk P w K mg base CX0 2 f fd' ["_law_tape_here", "_law_n_here"] spOrder := by
  have GD : FnOk P w K mg base CX0 1 fD fdD ["_law_tape_here", "_law_many"] spDrawP := ok_drawP FD mLen
  refine F.ok scOrder (fun vs H Q E h => ?_) (fun cdv A outer s H vs Q E hr h => ?_)
  · obtain ⟨t, N, n, rfl, -⟩ := h
    rfl
  · obtain ⟨t, N, n, rfl, TT, hN, hn1, hn24, k⟩ := h
    obtain ⟨tp, TP⟩ := TT
    refine ⟨_, pss_cons (ps_set (i := 2) scOrder.nd rfl (Or.inl rfl) (pe_lrange rfl rfl mList rfl mRange (pa_cons (pv 1) pa_nil)))
      (pss_cons (ps_set (i := 3) scOrder.nd rfl (Or.inl rfl) (pe_lst pa_nil))
      (pss_cons (ps_for PassesOwn.never rfl (pi_range1 rfl mRange (pa_cons (pv 1) pa_nil)) (pg_name (i := 4) scOrder.nd rfl (Or.inl rfl))
        (pss_one (ps_expr (pe_bm PySem.F.plainAttrs_list PySem.F.slot_list_append PySem.F.type_list_append mt_append (pv 3)
          (pa_cons (pe_bm PySem.F.plainAttrs_list PySem.F.slot_list_pop PySem.F.type_list_pop mt_popAt (pv 2)
            (pa_cons (pe_call GD hr rfl mD FD.kp bD .nil pass0 (pa_cons (pv 0) (pa_cons (pe_callB call_len_seq (by rfl) mLen PySem.boot_len (pa_cons (pv 2) pa_nil)) pa_nil))) pa_nil)) pa_nil)))))
      (pss_one (ps_ret (pe_callTy call_tuple_of (by rfl) mTuple (by decide +kernel) (pa_cons (pv 3) pa_nil)))))), ?_⟩
    refine ⟨_, rfl, n, rfl, om, om, fun lf hlf => ?_⟩
    obtain ⟨ns0, sp0, re0, ht0, hp0, -⟩ := id TP
    have nlt : lf ≠ t := (ne_of_none ht0 hlf).symm
    have nlp : lf ≠ tp := (ne_of_none hp0 hlf).symm
    refine ⟨Nat.zero_le _, fun D hD => ?_⟩
    have nDl : D ≠ lf := fun z => by rw [z, upd_same] at hD; cases hD
    have hD0 : H D = none := by rw [upd_ne nDl] at hD; exact hD
    have nDt : D ≠ t := (ne_of_none ht0 hD0).symm
    have nDp : D ≠ tp := (ne_of_none hp0 hD0).symm
    refine ⟨_, rfl, n, rfl, om, om, for_range (lo := 0) (n := n.toNat) (fun q σ H2 => Ex3 fun (v4 : Option V) (row left : List Int) => C7 (σ = [some (.ref t), some (.int n), some (.ref lf), some (.ref D), v4]) (row.length = q) ((row ++ left).Perm (lowTo n.toNat)) (H2 lf = some (.lst (left.map V.int))) (H2 D = some (.lst (row.map V.int))) (TapeP H2 t tp (N + q)) (Sm t H H2))
      ⟨none, [], lowTo n.toNat, rfl, rfl, List.Perm.refl _, by rw [upd_ne nDl.symm, upd_same], upd_same, TP.keepF (fun o e => by rw [upd_ne nDt.symm, upd_ne nlt.symm]; exact e) (fun o e => by rw [upd_ne nDp.symm, upd_ne nlp.symm]; exact e) om, (Sm.laid hlf).chg hD0⟩ ?turn ?after⟩
    case after =>
      rintro σ H2 ⟨v4, row, left, rfl, hl, hp, hlf2, hD2, TP2, s2⟩
      have hleft : left = [] := by
        have := hp.length_eq
        rw [List.length_append, ints_len, hl] at this
        exact List.length_eq_zero_iff.mp om
      subst hleft
      rw [List.append_nil] at hp
      have nd : row.Nodup := hp.nodup_iff.mpr ((ints_rise _).imp fun h => by first | lia | omega)
      refine ⟨_, rfl, D, _, rfl, .inl ⟨SqL.of hD2, fun l hl' => ?_⟩⟩
      refine k l row _ upd_same ⟨hl, nd, fun p hp' => ?_⟩ (TapeAt.mono (TapeAt.laid ⟨tp, TP2⟩ hl') om) (s2.trans (Sm.laid hl'))
      have := mem_ints.mp (hp.mem_iff.mp hp')
      (first | lia | omega)
    case turn =>
      rintro q σ H2 hq ⟨v4, row, left, rfl, hl, hp, hlf2, hD2, TP2, s2⟩
      have hll : row.length + left.length = n.toNat := by
        have := hp.length_eq
        rw [List.length_append, ints_len] at this
        exact this
      refine ⟨_, rfl, .inl ⟨rfl, _, SqL.of hD2⟩, _, rfl, .inl ⟨rfl, _, SqL.of hlf2⟩, ?_⟩
      refine ⟨_, rfl, _, rfl, lf, _, rfl, .inl (SqL.of hlf2), t, tp, N + q, _, rfl, TP2, om, by rw [List.length_map]; (first | lia | omega), by rw [List.length_map]; (first | lia | omega), fun rr H3 h0 h1 TP3 e3 => ?_⟩
      rw [List.length_map] at h1
      have hlt : rr.toNat < left.length := by first | lia | omega
      refine ⟨lf, left.map V.int, rr, rr.toNat, .int left[rr.toNat], rfl, rfl, by rw [e3 lf nlt]; exact hlf2, om, om, PySem.StrLaws.seqIndex_nonneg h0 (by rw [List.length_map]; (first | lia | omega)), by rw [List.getElem?_map, List.getElem?_eq_getElem hlt]; rfl, ?_⟩
      rw [erase_map left rr.toNat]
      have s3 : Sm t H H3 := fun b o nb e => by rw [e3 b nb]; exact s2 b o nb e
      have hlf0 : H lf = none := hlf
      refine ⟨D, _, _, rfl, rfl, by rw [upd_ne nDl, e3 D nDt]; exact hD2, by rw [List.length_map]; exact small_line om, ?_⟩
      refine ⟨_, row ++ [left[rr.toNat]], left.eraseIdx rr.toNat, rfl, by rw [List.length_append, hl]; rfl, ?_, by rw [upd_ne nDl.symm, upd_same], by rw [List.map_append]; exact upd_same, TP3.keepF (fun o e => by rw [upd_ne nDt.symm, upd_ne nlt.symm]; exact e) (fun o e => by rw [upd_ne nDp.symm, upd_ne nlp.symm]; exact e) om, (s3.chg hlf0).chg hD0⟩
      refine List.Perm.trans ?_ hp
      rw [List.append_assoc]
      exact (erase_perm hlt).append_left row
end
structure LabsG (ts : List T3) (n : Int) (ess : List (List En)) : Prop where
  ln : ess.length = n.toNat
  lg : ∀ (i : Nat) (es : List En), ess[i]? = some es → LG ts n i es
  cov : ∀ (i j : Nat) (es fs : List En), ess[i]? = some es → ess[j]? = some fs → CovP ts i j es fs
theorem MinO.some_of {P : Int → Prop} {o : Option Int} (h : MinO P o) {p : Int} (hp : P p) : ∃ m, o = some m ∧ P m := by
  cases o with
  | none => exact absurd hp (h p)
  | some m => exact ⟨m, rfl, h.1⟩
theorem LabOf.lg {n : Int} {ts : List T3} (G : GW n ts) {rk : Int → Int} {v : Int} {es : List En} (L : LabOf ts n rk v es) (v0 : 0 ≤ v) (v1 : v < n) : LG ts n v es := by
  refine ⟨L.hub, fun e he => ?_, ?_⟩
  · have E := L.ent e he
    refine ⟨E.rng, E.len, fun hne => ?_, fun hne => ?_⟩
    · obtain ⟨p, hp⟩ := Nxt.exists G E.len (Ne.symm hne)
      exact E.up.some_of hp
    · obtain ⟨p, hp⟩ := Nxt.exists G E.len.symm hne
      exact E.dn.some_of hp
  · refine L.all v v0 v1 ⟨⟨0, isD_self G v⟩, fun p hp => ?_⟩
    obtain ⟨a, b, ia, ib, iab⟩ := hp
    have e0 : a + b = 0 := iab.uniq (isD_self G v)
    have := ia.1.nn G
    have := ib.1.nn G
    have : a = 0 := by first | lia | omega
    rw [← (isD_zero G ia).mp this]
    exact Int.le_refl _
theorem LabsOf.good {n : Int} {ts : List T3} (G : GW n ts) {os : List Int} {rk : Int → Int} {ess : List (List En)} (R : RkOf n os rk) (L : LabsOf ts n rk ess) : LabsG ts n ess := by
  have hln := L.1
  have inr : ∀ (i : Nat) (es : List En), ess[i]? = some es → (0 : Int) ≤ i ∧ (i : Int) < n := fun i es h => by
    have := (List.getElem?_eq_some_iff.mp h).1
    (first | lia | omega)
  refine ⟨L.1, fun i es h => (L.2 i es h).lg G (inr i es h).1 (inr i es h).2, fun i j es fs hi hj d hd => ?_⟩
  obtain ⟨p, hp, hmin⟩ := min_rk (P := Btw ts i j) rk (rk (i : Int)).toNat i (Btw.self G hd) (Nat.le_refl _)
  have i01 := inr i es hi
  obtain ⟨a, b, ia, ib, iab⟩ := id hp
  have prng := ia.1.in_ G i01.1 i01.2
  have le : ∀ q, Btw ts i j q → rk p ≤ rk q := fun q hq => by
    obtain ⟨a', b', ia', -⟩ := id hq
    have qr := ia'.1.in_ G i01.1 i01.2
    have h1 := hmin q hq
    have h2 := (R p prng.1 prng.2).1
    have h3 := (R q qr.1 qr.2).1
    (first | lia | omega)
  refine ⟨p, hp, (L.2 i es hi).all p prng.1 prng.2 ⟨⟨a, ia.symm⟩, fun q hq => le q (hp.trans hq.symm)⟩, (L.2 j fs hj).all p prng.1 prng.2 ⟨⟨b, ib⟩, fun q hq => le q (hp.symm.trans hq.symm).symm⟩⟩
structure EOk (n : Int) (e : En) : Prop where
  rng : 0 ≤ e.h ∧ e.h < n
  nn : 0 ≤ e.l
  own : e.l = 0 → e.u = none ∧ e.d = none
  far : e.l ≠ 0 → ∃ u d, e.u = some u ∧ e.d = some d ∧ 0 ≤ u ∧ u < n ∧ 0 ≤ d ∧ d < n
structure LKind (n : Int) (es : List En) : Prop where
  ent : ∀ e ∈ es, EOk n e
  hub : Hub es
  len : (es.length : Int) ≤ n
  one : (es.map (·.l)).countP (fun x => x == 0) = 1
inductive spRis_r (vs : List V) (H : Hp) (Q : VK) : Prop
  | mk : ∀ (p : Addr) (xs : List Int), (vs = [.ref p]) → (H p = some (.lst (xs.map V.int))) → (xs.Pairwise (· < ·)) → (xs.length ≤ 1000) → (∀ H', Same H H' → Q (.bl true) H') → spRis_r vs H Q
noncomputable def spRis : Sp := fun vs H Q _ => spRis_r vs H Q
inductive spEnt9_r (vs : List V) (H : Hp) (Q : VK) : Prop
  | mk : ∀ (n : Int) (a : Addr) (e : En), (vs = [.int n, .ref a]) → (H a = some (.tup (eV e))) → (EOk n e) → (Q (.bl true) H) → spEnt9_r vs H Q
noncomputable def spEnt9 : Sp := fun vs H Q _ => spEnt9_r vs H Q
inductive spLab9_r (vs : List V) (H : Hp) (Q : VK) : Prop
  | mk : ∀ (n : Int) (p : Addr) (es : List En), (vs = [.int n, .ref p]) → (LabAt H p es) → (LKind n es) → (∀ H', Same H H' → Q (.bl true) H') → spLab9_r vs H Q
noncomputable def spLab9 : Sp := fun vs H Q _ => spLab9_r vs H Q
inductive spLabs9_r (vs : List V) (H : Hp) (Q : VK) : Prop
  | mk : ∀ (n : Int) (l : Addr) (ess : List (List En)), (vs = [.int n, .ref l]) → (LabsAt H l ess) → ((ess.length : Int) = n) → (n ≤ 24) → ((∀ es ∈ ess, LKind n es)) → (∀ H', Same H H' → Q (.bl true) H') → spLabs9_r vs H Q
noncomputable def spLabs9 : Sp := fun vs H Q _ => spLabs9_r vs H Q
section
variable {P : Program} {w : World} {K : PySem.W.Frag} {mg : Str → Option Value} {base : Heap}
theorem scRis : FnScope ["things"] ["things"] (defScope sRis) := ⟨rfl, rfl, rfl, by decide +kernel, rfl, by decide +kernel, by decide +kernel⟩
theorem ok_ris {f : Addr} {fd' : FuncData} (F : Fun K "is_rising" "is_rising" sRis f fd') (mLen : mg "len" = none) (mRange : mg "range" = none) (mAll : mg "all" = none) : FnOk P w K mg base CX0 1 f fd' ["things"] spRis := by
  refine F.ok scRis (fun vs H Q E h => ?_) (fun cdv A outer s H vs Q E hr h => ?_)
  · obtain ⟨p, xs, rfl, -⟩ := h
    rfl
  · obtain ⟨p, xs, rfl, hp, hrise, hl, k⟩ := h
    refine ⟨_, pss_one (ps_ret (pe_callB (call_all rfl) (by rfl) mAll (by decide +kernel) (pa_cons (pe_comp (own := ["k"]) (cn := ["things"]) (ci := [0]) rfl (csc rfl rfl) ⟨rfl, rfl, rfl, trivial⟩ rfl
      (pi_range2 rfl mRange (pa_cons pe_int (pa_cons (pe_callB call_len_seq (by rfl) mLen PySem.boot_len (pa_cons (pv 0) pa_nil)) pa_nil))) (fun _ _ _ _ => pg_name (i := 0) (nd_of rfl) rfl (Or.inl rfl)) (fun _ _ _ _ => pts_nil)
      (fun _ _ _ _ => pe_cmpR op_lt (pe_ix ix_listC (pv 1) (pe_op op_sub (pv 0) pe_int) (fun _ _ => rfl)) (pe_ix ix_listC (pv 1) (pv 0) (fun _ _ => rfl)) (nomark _))) pa_nil))), ?_⟩
    refine ⟨_, rfl, p, _, rfl, .inl (SqL.of hp), 1, _, rfl, ⟨by decide, by decide, by rw [List.length_map]; (first | lia | omega), by rw [List.length_map]; (first | lia | omega)⟩, [.ref p], rfl, fun D hD => ?_⟩
    refine comp_range (lo := 1) (n := (((xs.map V.int).length : Int) - 1).toNat) (fun q ys H4 => C3 (q ≤ (((xs.map V.int).length : Int) - 1).toNat) (ys = (List.replicate q true).map V.bl) (H4 = upd H D (.lst ys))) ⟨Nat.zero_le _, rfl, rfl⟩ (fun q ys H4 z => ?_) (fun q ys H4 hq z => ?_) (fun ys H4 z => ?_)
    · obtain ⟨hq, rfl, -⟩ := z
      rw [List.length_map] at hq
      rw [List.length_map, List.length_replicate]
      exact line1000 om
    · obtain ⟨_, rfl, rfl⟩ := z
      rw [List.length_map] at hq
      have hp4 := same_laid (o := .lst ((List.replicate q true).map V.bl)) hD _ _ hp
      have h1 : q < xs.length := by first | lia | omega
      have h2 : q + 1 < xs.length := by first | lia | omega
      refine ⟨⟨rfl, rfl⟩, ?_⟩
      refine tyes ?_
      refine ⟨_, rfl, _, rfl, _, _, rfl, rfl, p, _, _, .int xs[q], rfl, rfl, SqL.of hp4, atI_in om (by rw [show ((1 : Int) + q - 1).toNat = q by first | lia | omega, List.getElem?_map, List.getElem?_eq_getElem h1]; rfl), _, rfl, _, rfl, p, _, _, .int xs[q + 1], rfl, rfl, SqL.of hp4, atI_in om (by rw [show ((1 : Int) + q).toNat = q + 1 by first | lia | omega, List.getElem?_map, List.getElem?_eq_getElem h2]; rfl), _, _, rfl, rfl, upd_same, by rw [List.length_map]; (first | lia | omega), ?_, upd_upd⟩
      have hlt := List.pairwise_iff_getElem.mp hrise q (q + 1) h1 h2 om
      try dsimp only
      rw [decide_eq_true hlt, List.replicate_succ', List.map_append]; rfl
    · obtain ⟨_, rfl, rfl⟩ := z
      refine ⟨D, _, rfl, SqL.of upd_same, ?_⟩
      have hall : ∀ m, (List.replicate m true).all id = true := fun m => List.all_eq_true.mpr fun b hb => (List.mem_replicate.mp hb).2
      rw [hall]
      exact k _ (same_laid hD)
theorem scEnt9 : FnScope ["n", "thing"] ["n", "thing"] (defScope sEnt9) := ⟨rfl, rfl, rfl, by decide +kernel, rfl, by decide +kernel, by decide +kernel⟩
theorem ok_ent9 {f fT fW fP fN : Addr} {fd' fdT fdW fdP fdN : FuncData} (F : Fun K "is_entry" "is_entry" sEnt9 f fd') (FT : Fun K "is_tuple_of" "is_tuple_of" sTof fT fdT) (bT : Binds K fdT ["thing", "count"] []) (mT : mg "is_tuple_of" = some (.ref fT))
    (FW : Fun K "is_within" "is_within" sWi fW fdW) (bW : Binds K fdW ["thing", "least", "most"] []) (mW : mg "is_within" = some (.ref fW)) (FP : Fun K "is_place" "is_place" sPl fP fdP) (bP : Binds K fdP ["n", "thing"] []) (mP : mg "is_place" = some (.ref fP)) (FN : Fun K "is_number" "is_number" sNum fN fdN) (bN : Binds K fdN ["thing"] []) (mN : mg "is_number" = some (.ref fN))
    (mIsi : mg "isinstance" = none) (mInt : mg "int" = none) (mBool : mg "bool" = none) (mTuple : mg "tuple" = none) (mLen : mg "len" = none) : FnOk P w K mg base CX0 4 f fd' ["n", "thing"] spEnt9 := by
  have GT : FnOk P w K mg base CX0 3 fT fdT ["thing", "count"] spTof := (ok_tof FT mIsi mTuple mLen).mono (by decide)
  have GN : FnOk P w K mg base CX0 3 fN fdN ["thing"] spNum := (ok_num FN mIsi mInt mBool).mono (by decide)
  have GP : FnOk P w K mg base CX0 3 fP fdP ["n", "thing"] spPl := ok_pl FP FW bW mW FN bN mN mIsi mInt mBool
  refine F.ok scEnt9 (fun vs H Q E h => ?_) (fun cdv A outer s H vs Q E hr h => ?_)
  · obtain ⟨n, a, e, rfl, -⟩ := h
    rfl
  · obtain ⟨n, a, e, rfl, ha, O, k⟩ := h
    refine ⟨_, pss_cons (ps_if (PW.pt (pw_or (pt_not (pt_val (pe_call GT hr rfl mT FT.kp bT .nil pass0 (pa_cons (pv 1) (pa_cons pe_int pa_nil))))) (pw_or1 (pt_not (pt_val (pe_call GP hr rfl mP FP.kp bP .nil pass0 (pa_cons (pv 0) (pa_cons (pe_ix ix_tup (pv 1) pe_int (fun _ _ => rfl)) pa_nil)))))))) (pss_one (ps_ret pe_bl)) pss_nil)
      (pss_cons (ps_if (PW.pt (pw_or (pt_not (pt_val (pe_call GN hr rfl mN FN.kp bN .nil pass0 (pa_cons (pe_ix ix_tup (pv 1) pe_int (fun _ _ => rfl)) pa_nil)))) (pw_or1 (pt_cmpR op_lt (pe_ix ix_tup (pv 1) pe_int (fun _ _ => rfl)) pe_int (nomark _))))) (pss_one (ps_ret pe_bl)) pss_nil)
      (pss_cons (ps_if (pt_cmpR op_eq (pe_ix ix_tup (pv 1) pe_int (fun _ _ => rfl)) pe_int (nomark _)) (pss_one (ps_ret (pe_and (pe_cmpR op_isN (pe_ix ix_tup (pv 1) pe_int (fun _ _ => rfl)) pe_non (nomark _)) (pe_one (pe_cmpR op_isN (pe_ix ix_tup (pv 1) pe_int (fun _ _ => rfl)) pe_non (nomark _)))))) pss_nil)
      (pss_one (ps_ret (pe_and (pe_call GP hr rfl mP FP.kp bP .nil pass0 (pa_cons (pv 0) (pa_cons (pe_ix ix_tup (pv 1) pe_int (fun _ _ => rfl)) pa_nil))) (pe_one (pe_call GP hr rfl mP FP.kp bP .nil pass0 (pa_cons (pv 0) (pa_cons (pe_ix ix_tup (pv 1) pe_int (fun _ _ => rfl)) pa_nil))))))))), ?_⟩
    have hr' := O.rng
    have ht := SqT.of (K := K) ha
    refine ⟨_, rfl, a, eV e, rfl, ha, _, rfl, iteF ?_⟩
    refine ⟨_, rfl, _, rfl, a, _, _, .int e.h, rfl, rfl, ht, rfl, n, e.h, rfl, hr'.1, om, _, rfl, iteF ?_⟩
    refine ⟨_, rfl, a, _, _, .int e.l, rfl, rfl, ht, rfl, e.l, rfl, _, rfl, iteF ?_⟩
    have hnn := O.nn
    refine ⟨_, rfl, a, _, _, .int e.l, rfl, rfl, ht, rfl, _, _, rfl, rfl, _, rfl, ifF (decide_eq_false om) ?_⟩
    refine ⟨_, rfl, a, _, _, .int e.l, rfl, rfl, ht, rfl, rfl, _, rfl, ?_⟩
    rw [dec_V]
    by_cases c : e.l = 0
    · refine ifT (decide_eq_true c) ?_
      obtain ⟨hu, hd⟩ := O.own c
      refine ⟨_, rfl, a, _, _, oV e.u, rfl, rfl, ht, rfl, rfl, _, rfl, ?_⟩
      refine ifT (by rw [hu]; rfl) ?_
      refine ⟨_, rfl, a, _, _, oV e.d, rfl, rfl, ht, rfl, rfl, ?_⟩
      rw [hd, show decide (oV none = V.non) = true from rfl]
      exact k
    · refine ifF (decide_eq_false c) ?_
      obtain ⟨u, d, hu, hd, u0, u1, d0, d1⟩ := O.far c
      refine ⟨_, rfl, _, rfl, a, _, _, oV e.u, rfl, rfl, ht, rfl, n, u, by rw [hu]; rfl, u0, om, true, rfl, iteT ?_⟩
      exact ⟨_, rfl, _, rfl, a, _, _, oV e.d, rfl, rfl, ht, rfl, n, d, by rw [hd]; rfl, d0, om, k⟩
end
section
variable {P : Program} {w : World} {K : PySem.W.Frag} {mg : Str → Option Value} {base : Heap}
theorem all_rep (m : Nat) : (List.replicate m true).all id = true := List.all_eq_true.mpr fun b hb => (List.mem_replicate.mp hb).2
theorem scLab9 : FnScope ["n", "thing", "longs"] ["n", "thing"] (defScope sLab9) := ⟨rfl, rfl, rfl, by decide +kernel, rfl, by decide +kernel, by decide +kernel⟩
theorem ok_lab9 {f fE fR : Addr} {fd' fdE fdR : FuncData} (F : Fun K "is_label" "is_label" sLab9 f fd') (FE : Fun K "is_entry" "is_entry" sEnt9 fE fdE) (bE : Binds K fdE ["n", "thing"] []) (mE : mg "is_entry" = some (.ref fE)) (GE : FnOk P w K mg base CX0 4 fE fdE ["n", "thing"] spEnt9)
    (FR : Fun K "is_rising" "is_rising" sRis fR fdR) (bR : Binds K fdR ["things"] []) (mR : mg "is_rising" = some (.ref fR)) (GR : FnOk P w K mg base CX0 4 fR fdR ["things"] spRis) (mIsi : mg "isinstance" = none) (mTuple : mg "tuple" = none) (mLen : mg "len" = none) (mAll : mg "all" = none) :
    FnOk P w K mg base CX0 5 f fd' ["n", "thing"] spLab9 := by
  refine F.ok scLab9 (fun vs H Q E h => ?_) (fun cdv A outer s H vs Q E hr h => ?_)
  · obtain ⟨n, p, es, rfl, -⟩ := h
    rfl
  · obtain ⟨n, p, es, rfl, L, LK, k⟩ := h
    obtain ⟨as, hp, EA, hl⟩ := id L
    have hlen := LK.len
    refine ⟨_, pss_cons (ps_if (PW.pt (pw_or (pt_not (pt_val (pe_callB call_isinst (by rfl) mIsi (by decide +kernel) (pa_cons (pv 1) (pa_cons (pe_tyN (T := "tuple") (by rfl) mTuple (by decide +kernel)) pa_nil))))) (pw_or1 (pt_cmpR op_gt (pe_callB call_len_seq (by rfl) mLen PySem.boot_len (pa_cons (pv 1) pa_nil)) (pv 0) (nomark _))))) (pss_one (ps_ret pe_bl)) pss_nil)
      (pss_cons (ps_if (pt_not (pt_val (pe_callB (call_all rfl) (by rfl) mAll (by decide +kernel) (pa_cons (pe_comp (own := ["entry"]) (cn := ["n"]) (ci := [0]) rfl (csc rfl rfl) ⟨rfl, rfl, rfl, trivial⟩ rfl (pi_tup (pv 1)) (fun _ _ _ _ => pg_name (i := 0) (nd_of rfl) rfl (Or.inl rfl)) (fun _ _ _ _ => pts_nil)
        (fun _ _ _ _ => pe_call GE hr rfl mE FE.kp bE .nil pass0 (pa_cons (pv 1) (pa_cons (pv 0) pa_nil)))) pa_nil)))) (pss_one (ps_ret pe_bl)) pss_nil)
      (pss_cons (ps_setC (i := 2) (own := ["entry"]) (cn := []) (ci := []) scLab9.nd rfl (Or.inl rfl) rfl (csc rfl rfl) trivial rfl (pi_tup (pv 1)) (fun _ _ _ _ => pg_name (i := 0) (nd_of rfl) rfl (Or.inl rfl)) (fun _ _ _ _ => pts_nil) (fun _ _ _ _ => pe_ix ix_tupC (pv 0) pe_int (fun _ _ => rfl)))
      (pss_one (ps_ret (pe_and (pe_cmpR op_eq (pe_bm PySem.F.plainAttrs_list PySem.F.slot_list_count PySem.F.type_list_count mt_count (pv 2) (pa_cons pe_int pa_nil)) pe_int (nomark _)) (pe_one (pe_call GR hr rfl mR FR.kp bR .nil pass0
        (pa_cons (pe_comp (own := ["entry"]) (cn := []) (ci := []) rfl (csc rfl rfl) trivial rfl (pi_tup (pv 1)) (fun _ _ _ _ => pg_name (i := 0) (nd_of rfl) rfl (Or.inl rfl)) (fun _ _ _ _ => pts_nil) (fun _ _ _ _ => pe_ix ix_tupC (pv 0) pe_int (fun _ _ => rfl))) pa_nil)))))))), ?_⟩
    refine ⟨_, rfl, _, _, _, true, rfl, .tup hp, rfl, _, rfl, iteF ?_⟩
    refine ⟨_, rfl, p, _, rfl, .inr (SqT.of hp), _, rfl, _, _, rfl, rfl, _, rfl, ifF (decide_eq_false (by rw [List.length_map, EA.1]; (first | lia | omega))) ?_⟩
    refine ⟨_, rfl, p, rfl, ⟨_, SqT.of hp⟩, [.int n], rfl, fun D hD => ?_⟩
    refine comp_tup (a := p) (xs := as.map V.ref) (fun i ys H4 => C3 (i ≤ es.length) (ys = (List.replicate i true).map V.bl) (H4 = upd H D (.lst ys))) ⟨Nat.zero_le _, rfl, rfl⟩ (fun i ys H4 z => ?_) (fun i ys H4 z => ?_) (fun i v ys H4 hv z => ?_) (fun ys H4 z => ?_)
    · obtain ⟨_, _, rfl⟩ := z
      exact SqT.of (same_laid hD _ _ hp)
    · obtain ⟨hi, rfl, -⟩ := z
      rw [List.length_map, List.length_replicate]
      exact line1000 om
    · obtain ⟨_, rfl, rfl⟩ := z
      obtain ⟨a, x, rfl, hx, ha⟩ := EA.at hv
      refine ⟨⟨rfl, rfl⟩, ?_⟩
      refine tyes ?_
      refine ⟨_, rfl, _, rfl, n, a, x, rfl, same_laid hD _ _ ha, LK.ent x (List.mem_of_getElem? hx), upd_same, (List.getElem?_eq_some_iff.mp hx).1, ?_, upd_upd⟩
      rw [List.replicate_succ', List.map_append]; rfl
    · obtain ⟨_, rfl, rfl⟩ := z
      refine ⟨D, _, rfl, SqL.of upd_same, _, rfl, ?_⟩
      rw [all_rep]
      refine iteF ?_
      have s1 := same_laid (o := .lst ((List.replicate (as.map V.ref).length true).map V.bl)) hD
      generalize upd H D (.lst ((List.replicate (as.map V.ref).length true).map V.bl)) = H1 at s1 ⊢
      refine ⟨_, rfl, p, rfl, ⟨_, SqT.of (s1 _ _ hp)⟩, [], rfl, fun D2 hD2 => ?_⟩
      refine comp_tup (a := p) (xs := as.map V.ref) (fun i ys H4 => ys = ((es.take i).map (·.l)).map V.int ∧ H4 = upd H1 D2 (.lst ys)) ⟨rfl, rfl⟩ (fun i ys H4 z => ?_) (fun i ys H4 z => ?_) (fun i v ys H4 hv z => ?_) (fun ys H4 z => ?_)
      · obtain ⟨_, rfl⟩ := z
        exact SqT.of (same_laid hD2 _ _ (s1 _ _ hp))
      · obtain ⟨rfl, -⟩ := z
        rw [List.length_map, List.length_map, List.length_take]
        exact line1000 om
      · obtain ⟨rfl, rfl⟩ := z
        obtain ⟨a, x, rfl, hx, ha⟩ := EA.at hv
        refine ⟨⟨rfl, rfl⟩, ?_⟩
        refine tyes ?_
        refine ⟨_, rfl, a, _, _, .int x.l, rfl, rfl, SqT.of (same_laid hD2 _ _ (s1 _ _ ha)), rfl, upd_same, ?_, upd_upd⟩
        rw [List.take_add_one, hx, List.map_append, List.map_append]; rfl
      · obtain ⟨rfl, rfl⟩ := z
        rw [List.length_map, EA.1, List.take_of_length_le (Nat.le_refl _)]
        have s2 := s1.trans (same_laid (o := .lst ((es.map (·.l)).map V.int)) hD2)
        have hD22 : (upd H1 D2 (.lst ((es.map (·.l)).map V.int))) D2 = some (.lst ((es.map (·.l)).map V.int)) := upd_same
        generalize upd H1 D2 (.lst ((es.map (·.l)).map V.int)) = H2 at s2 hD22 ⊢
        refine ⟨_, rfl, .inl ⟨rfl, _, SqL.of hD22⟩, D2, es.map (·.l), 0, rfl, rfl, SqL.of hD22, rfl, _, rfl, ?_⟩
        refine ifT (by rw [LK.one]; rfl) ?_
        refine ⟨_, rfl, p, rfl, ⟨_, SqT.of (s2 _ _ hp)⟩, [], rfl, fun D3 hD3 => ?_⟩
        refine comp_tup (a := p) (xs := as.map V.ref) (fun i ys H4 => ys = ((es.take i).map (·.h)).map V.int ∧ H4 = upd H2 D3 (.lst ys)) ⟨rfl, rfl⟩ (fun i ys H4 z => ?_) (fun i ys H4 z => ?_) (fun i v ys H4 hv z => ?_) (fun ys H4 z => ?_)
        · obtain ⟨_, rfl⟩ := z
          exact SqT.of (same_laid hD3 _ _ (s2 _ _ hp))
        · obtain ⟨rfl, -⟩ := z
          rw [List.length_map, List.length_map, List.length_take]
          exact line1000 om
        · obtain ⟨rfl, rfl⟩ := z
          obtain ⟨a, x, rfl, hx, ha⟩ := EA.at hv
          refine ⟨⟨rfl, rfl⟩, ?_⟩
          refine tyes ?_
          refine ⟨_, rfl, a, _, _, .int x.h, rfl, rfl, SqT.of (same_laid hD3 _ _ (s2 _ _ ha)), rfl, upd_same, ?_, upd_upd⟩
          rw [List.take_add_one, hx, List.map_append, List.map_append]; rfl
        · obtain ⟨rfl, rfl⟩ := z
          rw [List.length_map, EA.1, List.take_of_length_le (Nat.le_refl _)]
          refine ⟨D3, es.map (·.h), rfl, upd_same, by rw [List.pairwise_map]; exact LK.hub, by rw [List.length_map]; (first | lia | omega), fun H5 s5 => ?_⟩
          exact k _ ((s2.trans (same_laid hD3)).trans s5)
theorem scLabs9 : FnScope ["n", "thing"] ["n", "thing"] (defScope sLabs9) := ⟨rfl, rfl, rfl, by decide +kernel, rfl, by decide +kernel, by decide +kernel⟩
theorem ok_labs9 {f fT fL : Addr} {fd' fdT fdL : FuncData} (F : Fun K "are_labels" "are_labels" sLabs9 f fd') (FT : Fun K "is_tuple_of" "is_tuple_of" sTof fT fdT) (bT : Binds K fdT ["thing", "count"] []) (mT : mg "is_tuple_of" = some (.ref fT)) (GT : FnOk P w K mg base CX0 5 fT fdT ["thing", "count"] spTof)
    (FL : Fun K "is_label" "is_label" sLab9 fL fdL) (bL : Binds K fdL ["n", "thing"] []) (mL : mg "is_label" = some (.ref fL)) (GL : FnOk P w K mg base CX0 5 fL fdL ["n", "thing"] spLab9) (mAll : mg "all" = none) : FnOk P w K mg base CX0 6 f fd' ["n", "thing"] spLabs9 := by
  refine F.ok scLabs9 (fun vs H Q E h => ?_) (fun cdv A outer s H vs Q E hr h => ?_)
  · obtain ⟨n, l, ess, rfl, -⟩ := h
    rfl
  · obtain ⟨n, l, ess, rfl, ⟨as, hl, hal, hla⟩, hn, hn24, hk, k⟩ := h
    refine ⟨_, pss_one (ps_ret (pe_and (pe_call GT hr rfl mT FT.kp bT .nil pass0 (pa_cons (pv 1) (pa_cons (pv 0) pa_nil))) (pe_one (pe_callB (call_all rfl) (by rfl) mAll (by decide +kernel) (pa_cons (pe_comp (own := ["label"]) (cn := ["n"]) (ci := [0]) rfl (csc rfl rfl) ⟨rfl, rfl, rfl, trivial⟩ rfl (pi_tup (pv 1)) (fun _ _ _ _ => pg_name (i := 0) (nd_of rfl) rfl (Or.inl rfl)) (fun _ _ _ _ => pts_nil)
      (fun _ _ _ _ => pe_call GL hr rfl mL FL.kp bL .nil pass0 (pa_cons (pv 1) (pa_cons (pv 0) pa_nil)))) pa_nil))))), ?_⟩
    have hln : ((as.map V.ref).length : Int) = n := by rw [List.length_map, hal]; exact hn
    refine ⟨_, rfl, _, rfl, l, as.map V.ref, by rw [hln]; rfl, hl, true, rfl, iteT ?_⟩
    refine ⟨_, rfl, l, rfl, ⟨_, SqT.of hl⟩, [.int n], rfl, fun D hD => ?_⟩
    refine comp_tup (a := l) (xs := as.map V.ref) (fun i ys H4 => i ≤ as.length ∧ ys = (List.replicate i true).map V.bl ∧ Same H H4 ∧ H4 D = some (.lst ys)) ⟨Nat.zero_le _, rfl, same_laid hD, upd_same⟩ (fun i ys H4 z => ?_) (fun i ys H4 z => ?_) (fun i v ys H4 hv z => ?_) (fun ys H4 z => ?_)
    · exact SqT.of (z.2.2.1 _ _ hl)
    · obtain ⟨hi, rfl, -⟩ := z
      rw [List.length_map, List.length_replicate]
      exact line1000 om
    · obtain ⟨_, rfl, s4, hD4⟩ := z
      obtain ⟨a, ha, rfl⟩ : ∃ a, as[i]? = some a ∧ V.ref a = v := by
        rw [List.getElem?_map] at hv
        cases e : as[i]? with
        | none => rw [e] at hv; cases hv
        | some a => rw [e] at hv; exact ⟨a, rfl, Option.some.inj hv⟩
      obtain ⟨es, e1, e2⟩ := hla i a ha
      refine ⟨⟨rfl, rfl⟩, ?_⟩
      refine tyes ?_
      refine ⟨_, rfl, _, rfl, n, a, es, rfl, e2.same s4, hk es (List.mem_of_getElem? e1), fun H5 s5 => ?_⟩
      refine ⟨s5 _ _ hD4, (List.getElem?_eq_some_iff.mp ha).1, ?_, same_chg (s4.trans s5) hD, upd_same⟩
      rw [List.replicate_succ', List.map_append]; rfl
    · obtain ⟨_, rfl, s4, hD4⟩ := z
      refine ⟨D, _, rfl, SqL.of hD4, ?_⟩
      rw [all_rep]
      exact k _ s4
end
theorem fnG1 {o : Option Int} (h : ∀ d, o = some d → d.natAbs < 10 ^ 40) : FnG (oDt o) := by
  obtain ⟨a1, a2, a3, a4, a5⟩ := leaf_oDt h
  refine ⟨?_, a3, om, a5⟩
  have := PyData.shown_le 50 (by decide) (oDt o) a1
  have : sizeLine = 16777216 := rfl
  (first | lia | omega)
theorem LabsAt.at {H : Hp} {ll : Addr} {ess : List (List En)} {n x : Int} (h : LabsAt H ll ess) (hl : ess.length = n.toNat) (h0 : 0 ≤ x) (h1 : x < n) : ∃ (as : List Addr) (a : Addr) (es : List En), H ll = some (.tup (as.map V.ref)) ∧ (as.map V.ref)[x.toNat]? = some (.ref a) ∧ ess[x.toNat]? = some es ∧ LabAt H a es := by
  obtain ⟨as, e1, e2, e3⟩ := h
  have hx : x.toNat < as.length := by first | lia | omega
  obtain ⟨es, g1, g2⟩ := e3 x.toNat as[x.toNat] (List.getElem?_eq_getElem hx)
  exact ⟨as, as[x.toNat], es, e1, by rw [List.getElem?_map, List.getElem?_eq_getElem hx]; rfl, g1, g2⟩
theorem LMin.self {n : Int} {ts : List T3} (G : GW n ts) {v : Int} {es : List En} (L : LG ts n v es) (C : CovP ts v v es es) {lm : Option (Int × Int)} (h : LMin (Cd es es) lm) : ∃ c, lm = some c ∧ c.2 = v := by
  have tr := told_right G L L C h
  cases lm with
  | none => exact absurd (isD_self G v).1 (tr.1 0)
  | some c =>
    obtain ⟨a, b, ia, ib, iab⟩ := tr.2 c rfl
    have e0 : a + b = 0 := iab.uniq (isD_self G v)
    have := ia.1.nn G
    have := ib.1.nn G
    exact ⟨c, rfl, ((isD_zero G ia).mp om).symm⟩
inductive spPr_r (vs : List V) (H : Hp) (Q : VK) : Prop
  | mk : ∀ (wa fl ll : Addr) (n : Int) (ts : List T3) (M : List (List (Option Int))) (ess : List (List En)) (x y : Int), (vs = [.ref wa, .ref fl, .ref ll, .int x, .int y]) → (WebAt H wa n ts) → (FarAt H fl n ts M) → (LabsAt H ll ess) → (LabsG ts n ess) → (0 ≤ x) → (x < n) → (0 ≤ y) → (y < n) → (∀ H', Same H H' → Q (.bl true) H') → spPr_r vs H Q
noncomputable def spPr : Sp := fun vs H Q _ => spPr_r vs H Q
section
variable {P : Program} {w : World} {K : PySem.W.Frag} {mg : Str → Option Value} {base : Heap}
theorem scPr : FnScope ["_law_web_here", "_law_far_here", "_law_labels", "_law_one", "_law_other", "_law_due", "_law_hub", "_law_step"] ["_law_web_here", "_law_far_here", "_law_labels", "_law_one", "_law_other"] (defScope sPr) := ⟨rfl, rfl, rfl, by decide +kernel, rfl, by decide +kernel, by decide +kernel⟩
theorem ok_pr {f fT fH fS fO fN : Addr} {fd' fdT fdH fdS fdO fdN : FuncData} (F : Fun K "_law_pair_right" "_law_pair_right" sPr f fd') (FT : Fun K "told" "told" sTold fT fdT) (bT : Binds K fdT ["one", "other"] []) (mT : mg "told" = some (.ref fT)) (GT : FnOk P w K mg base CX0 4 fT fdT ["one", "other"] spTold)
    (FH : Fun K "told_hub" "told_hub" sHub fH fdH) (bH : Binds K fdH ["one", "other"] []) (mH : mg "told_hub" = some (.ref fH)) (GH : FnOk P w K mg base CX0 4 fH fdH ["one", "other"] spHub) (FS : Fun K "next_step" "next_step" sStep fS fdS) (bS : Binds K fdS ["one", "other"] []) (mS : mg "next_step" = some (.ref fS)) (GS : FnOk P w K mg base CX0 4 fS fdS ["one", "other"] spStep)
    (FO : Fun K "_law_on" "_law_on" sOn fO fdO) (bO : Binds K fdO ["_law_far_here", "_law_place", "_law_one", "_law_other"] []) (mO : mg "_law_on" = some (.ref fO)) (GO : FnOk P w K mg base CX0 4 fO fdO ["_law_far_here", "_law_place", "_law_one", "_law_other"] spOn)
    (FN : Fun K "_law_nexts" "_law_nexts" sNxs fN fdN) (bN : Binds K fdN ["_law_web_here", "_law_far_here", "_law_one", "_law_other"] []) (mN : mg "_law_nexts" = some (.ref fN)) (GN : FnOk P w K mg base CX0 4 fN fdN ["_law_web_here", "_law_far_here", "_law_one", "_law_other"] spNxs)
    (mRepr : mg "repr" = none) (mIsi : mg "isinstance" = none) (mBool : mg "bool" = none) : FnOk P w K mg base CX0 5 f fd' ["_law_web_here", "_law_far_here", "_law_labels", "_law_one", "_law_other"] spPr := by
  refine F.ok scPr (fun vs H Q E h => ?_) (fun cdv A outer s H vs Q E hr h => ?_)
  · obtain ⟨wa, fl, ll, n, ts, M, ess, x, y, rfl, -⟩ := h
    rfl
  · obtain ⟨wa, fl, ll, n, ts, M, ess, x, y, rfl, W, FR, LA, LG', x0, x1, y0, y1, k⟩ := h
    obtain ⟨ta, tys, hwa, _, _, G⟩ := id W
    refine ⟨_, pss_cons (ps_set (i := 5) scPr.nd rfl (Or.inl rfl) (pe_ix ix_list (pe_ix ix_list (pv 1) (pv 3) (fun _ _ => rfl)) (pv 4) (fun _ _ => rfl)))
      (pss_cons (ps_if (pt_cmpR op_ne (pe_callB (call_reprG hr) (by rfl) mRepr (by decide +kernel) (pa_cons (pe_call GT hr rfl mT FT.kp bT .nil pass0 (pa_cons (pe_ix ix_tup (pv 2) (pv 3) (fun _ _ => rfl)) (pa_cons (pe_ix ix_tup (pv 2) (pv 4) (fun _ _ => rfl)) pa_nil))) pa_nil)) (pe_callB (call_reprG hr) (by rfl) mRepr (by decide +kernel) (pa_cons (pv 5) pa_nil)) (nomark _)) (pss_one (ps_ret pe_bl)) pss_nil)
      (pss_cons (ps_set (i := 6) scPr.nd rfl (Or.inl rfl) (pe_call GH hr rfl mH FH.kp bH .nil pass0 (pa_cons (pe_ix ix_tup (pv 2) (pv 3) (fun _ _ => rfl)) (pa_cons (pe_ix ix_tup (pv 2) (pv 4) (fun _ _ => rfl)) pa_nil))))
      (pss_cons (ps_set (i := 7) scPr.nd rfl (Or.inl rfl) (pe_call GS hr rfl mS FS.kp bS .nil pass0 (pa_cons (pe_ix ix_tup (pv 2) (pv 3) (fun _ _ => rfl)) (pa_cons (pe_ix ix_tup (pv 2) (pv 4) (fun _ _ => rfl)) pa_nil))))
      (pss_cons (ps_if (PW.pt (pw_or (pt_cmpR op_isN (pv 5) pe_non (nomark _)) (pw_or1 (pt_cmpR op_eq (pv 3) (pv 4) (nomark _))))) (pss_one (ps_ret (pe_and (pe_cmpR op_isN (pv 7) pe_non (nomark _)) (pe_one (pe_cmpR op_eq (pv 6) (pe_ifExp (pt_cmpR op_isN (pv 5) pe_non (nomark _)) pe_non (pv 3)) (nomark _)))))) pss_nil)
      (pss_one (ps_ret (pe_and (pe_call GO hr rfl mO FO.kp bO .nil pass0 (pa_cons (pv 1) (pa_cons (pv 6) (pa_cons (pv 3) (pa_cons (pv 4) pa_nil))))) (pe_and (pe_cmpR op_in_seq (pv 7) (pe_call GN hr rfl mN FN.kp bN .nil pass0 (pa_cons (pv 0) (pa_cons (pv 1) (pa_cons (pv 3) (pa_cons (pv 4) pa_nil))))) (by with_unfolding_all rfl))
        (pe_one (pe_not (pe_callB call_isinst (by rfl) mIsi (by decide +kernel) (pa_cons (pv 7) (pa_cons (pe_tyN (T := "bool") (by rfl) mBool (by decide +kernel)) pa_nil))))))))))))), ?_⟩
    obtain ⟨as, ax, ex, hll, gx, ix, lx⟩ := LA.at LG'.ln x0 x1
    obtain ⟨as2, ay, ey, hll2, gy, iy, ly⟩ := LA.at LG'.ln y0 y1
    have eas : as2.map V.ref = as.map V.ref := by rw [hll] at hll2; injection hll2 with h; injection h with h; exact h.symm
    rw [eas] at gy
    have Lx := LG'.lg _ _ ix
    have Ly := LG'.lg _ _ iy
    have Cxy := LG'.cov _ _ _ _ ix iy
    rw [Int.toNat_of_nonneg x0] at Lx Cxy
    rw [Int.toNat_of_nonneg y0] at Ly Cxy
    obtain ⟨ox, rx, fx, ox'⟩ := Lx.zero G
    obtain ⟨oy, ry, fy, oy'⟩ := Ly.zero G
    obtain ⟨rs1, rr1, row1, f1, g1, i1, j1, lq⟩ := FR.get x0 x1 y0 y1
    refine ⟨_, rfl, _, rfl, fl, _, _, .ref rr1, rfl, rfl, SqL.of f1, g1, _, rfl, rr1, _, _, _, rfl, rfl, SqL.of i1, j1, ?_⟩
    refine ⟨_, rfl, _, rfl, ll, _, _, .ref ax, rfl, rfl, SqT.of hll, atI_in x0 gx, _, rfl, _, rfl, ll, _, _, .ref ay, rfl, rfl, SqT.of hll, atI_in y0 gy, ax, ay, ex, ey, rfl, lx, ly, Ly.hub, fun lm H1 s1 hm => ?_⟩
    have tr := told_right G Lx Ly Cxy hm
    have em : lm.map (·.1) = mat M x y := Len.uniq tr.1 lq
    have fn : FnG (oDt (mat M x y)) := fnG1 fun d hd => by
      rw [hd] at lq
      have := way_bound G x y x0 x1 d lq
      (first | lia | omega)
    refine ⟨_, oDt (mat M x y), rfl, by rw [em]; exact shows_oVt _ _, fn, _, rfl, _, oDt (mat M x y), rfl, shows_oVt _ _, fn, rfl, _, rfl, iteNS rfl ?_⟩
    have hll1 := s1 _ _ hll
    refine ⟨_, rfl, _, rfl, ll, _, _, .ref ax, rfl, rfl, SqT.of hll1, atI_in x0 gx, _, rfl, _, rfl, ll, _, _, .ref ay, rfl, rfl, SqT.of hll1, atI_in y0 gy, ax, ay, ex, ey, rfl, lx.same s1, ly.same s1, Ly.hub, fun lm2 H2 s2 hm2 => ?_⟩
    obtain rfl := hm2.uniq hm
    have s12 := s1.trans s2
    have hll2' := s12 _ _ hll
    refine ⟨_, rfl, _, rfl, ll, _, _, .ref ax, rfl, rfl, SqT.of hll2', atI_in x0 gx, _, rfl, _, rfl, ll, _, _, .ref ay, rfl, rfl, SqT.of hll2', atI_in y0 gy, ax, ay, ex, ey, ox, oy, rx, ry, rfl, lx.same s12, ly.same s12, Lx.hub, Ly.hub, fx, fy, fun lm3 H3 s3 hm3 => ?_⟩
    obtain rfl := hm3.uniq hm
    have s13 := s12.trans s3
    rw [ox', oy']
    refine ⟨_, rfl, rfl, _, rfl, ?_⟩
    rw [oV_isN]
    cases lm3 with
    | none =>
      have em' : mat M x y = none := em.symm
      rw [em']
      refine ifT rfl (ifT rfl ?_)
      refine ⟨_, rfl, rfl, _, rfl, ifT rfl ?_⟩
      refine ⟨_, rfl, _, rfl, rfl, _, rfl, ?_⟩
      refine ifT rfl ?_
      exact ⟨rfl, k _ s13⟩
    | some c =>
      have em' : mat M x y = some c.1 := em.symm
      rw [em']
      refine ifF rfl ?_
      refine ⟨_, rfl, _, rfl, rfl, _, rfl, ?_⟩
      by_cases hxy : x = y
      · refine ifT (by rw [hxy]; simp) ?_
        have hst : stepE ex ey x y (some c) = none := by show (if x = y then none else _) = none; rw [if_pos hxy]
        rw [hst]
        have hc2 : c.2 = x := by
          subst hxy
          rw [ix] at iy
          cases iy
          obtain ⟨c', e1, e2⟩ := LMin.self G Lx Cxy hm
          cases e1
          exact e2
        refine ⟨_, rfl, rfl, _, rfl, ifT rfl ?_⟩
        refine ⟨_, rfl, _, rfl, rfl, _, rfl, ifF rfl ?_⟩
        refine ⟨_, rfl, rfl, ?_⟩
        rw [show decide (oV (Option.map (fun x => x.2) (some c)) = V.int x) = true from decide_eq_true (by show V.int c.2 = V.int x; rw [hc2])]
        exact k _ s13
      · refine ifF (by rw [dec_V]; exact decide_eq_false hxy) ?_
        obtain ⟨p, hp1, hp2⟩ := step_right G Lx Ly Cxy hm hxy
        rw [hp1]
        have hb := tr.2 c rfl
        have hbr : 0 ≤ c.2 ∧ c.2 < n := by
          obtain ⟨a, b, ia, -⟩ := id hb
          exact ia.1.in_ G x0 x1
        have FR3 : FarAt H3 fl n ts M := FR.keep fun b ys e => s13 _ _ e
        refine ⟨_, rfl, _, rfl, _, rfl, _, rfl, fl, n, ts, M, c.2, x, y, rfl, FR3, hbr.1, hbr.2, x0, x1, y0, y1, _, rfl, ?_⟩
        refine ifT ((onB_iff FR3 hbr.1 hbr.2 x0 x1 y0 y1).mpr hb) ?_
        refine ⟨_, rfl, _, rfl, _, rfl, _, rfl, _, rfl, wa, fl, n, ts, M, x, y, rfl, W.keep s13, FR3, x0, x1, y0, y1, fun lx' xs H4 s4 hlx _ hmx => ?_⟩
        refine ⟨lx', _, rfl, .inl (SqL.of hlx), rfl, flat_ints _, _, rfl, ?_⟩
        refine ifT (by show inV (.int p) (xs.map V.int) = true; rw [inV_ints]; exact decide_eq_true ((hmx p).mpr hp2)) ?_
        exact ⟨_, rfl, _, _, _, false, rfl, .int p, rfl, false, rfl, k _ (s13.trans s4)⟩
end
theorem Ordr.pos {n : Int} {os : List Int} {rk : Int → Int} (O : Ordr n os) (R : RkOf n os rk) {p : Int} {j : Nat} (h : os[j]? = some p) : rk p = j := by
  have hr := O.rng p (List.mem_of_getElem? h)
  obtain ⟨a, b⟩ := R p hr.1 hr.2
  obtain ⟨h1, e1⟩ := List.getElem?_eq_some_iff.mp h
  obtain ⟨h2, e2⟩ := List.getElem?_eq_some_iff.mp b
  have nd := List.pairwise_iff_getElem.mp (List.nodup_iff_pairwise_ne.mp O.nd)
  rcases Nat.lt_trichotomy j (rk p).toNat with z | z | z
  · exact absurd (by rw [e1, e2]) (nd j (rk p).toNat h1 h2 z)
  · (first | lia | omega)
  · exact absurd (by rw [e1, e2]) (nd (rk p).toNat j h2 h1 z)
section
variable {X : Cx} {pl : List (Addr × Obj)} {N' : List Str} {sc : Scope} {fp : List Addr} {s3 : Shared} {H3 : Hp}
end
inductive spHr_r (vs : List V) (H : Hp) (Q : VK) : Prop
  | mk : ∀ (fl ll ol : Addr) (n : Int) (ts : List T3) (M : List (List (Option Int))) (ess : List (List En)) (os : List Int) (rk : Int → Int), (vs = [.ref fl, .ref ll, .ref ol]) → (GW n ts) → (FarAt H fl n ts M) → (LabsAt H ll ess) → (LabsOf ts n rk ess) → (H ol = some (.tup (os.map V.int))) → (Ordr n os) → (RkOf n os rk) → (∀ H', Same H H' → Q (.bl true) H') → spHr_r vs H Q
noncomputable def spHr : Sp := fun vs H Q _ => spHr_r vs H Q
section
variable {P : Program} {w : World} {K : PySem.W.Frag} {mg : Str → Option Value} {base : Heap}
theorem scHr : FnScope ["_law_far_here", "_law_labels", "_law_order_here", "_law_place", "_law_hub", "_law_long", "_law_up", "_law_down"] ["_law_far_here", "_law_labels", "_law_order_here"] (defScope sHr) := ⟨rfl, rfl, rfl, by decide +kernel, rfl, by decide +kernel, by decide +kernel⟩
theorem ok_hr {f fO fN : Addr} {fd' fdO fdN : FuncData} (F : Fun K "_law_hubs_right" "_law_hubs_right" sHr f fd') (FO : Fun K "own_place" "own_place" sOwn fO fdO) (bO : Binds K fdO ["label"] []) (mO : mg "own_place" = some (.ref fO)) (GO : FnOk P w K mg base CX0 4 fO fdO ["label"] spOwn)
    (FN : Fun K "_law_on" "_law_on" sOn fN fdN) (bN : Binds K fdN ["_law_far_here", "_law_place", "_law_one", "_law_other"] []) (mN : mg "_law_on" = some (.ref fN)) (GN : FnOk P w K mg base CX0 4 fN fdN ["_law_far_here", "_law_place", "_law_one", "_law_other"] spOn)
    (mLen : mg "len" = none) (mRange : mg "range" = none) : FnOk P w K mg base CX0 5 f fd' ["_law_far_here", "_law_labels", "_law_order_here"] spHr := by
  refine F.ok scHr (fun vs H Q E h => ?_) (fun cdv A outer s H vs Q E hr h => ?_)
  · obtain ⟨fl, ll, ol, n, ts, M, ess, os, rk, rfl, -⟩ := h
    rfl
  · obtain ⟨fl, ll, ol, n, ts, M, ess, os, rk, rfl, G, FR, LA, LO, hol, O, R, k⟩ := h
    have hn24 := G.n24
    have hn1 := G.n1
    have hu0 := hr.units0
    have hess := LO.1
    refine ⟨_, pss_cons (ps_for PassesOwn.never rfl (pi_range1 rfl mRange (pa_cons (pe_callB call_len_seq (by rfl) mLen PySem.boot_len (pa_cons (pv 1) pa_nil)) pa_nil)) (pg_name (i := 3) scHr.nd rfl (Or.inr rfl))
        (pss_cons (ps_if (pt_cmpR op_ne (pe_call GO hr rfl mO FO.kp bO .nil pass0 (pa_cons (pe_ix ix_tup (pv 1) (pv 3) (fun _ _ => rfl)) pa_nil)) (pv 3) (nomark _)) (pss_one (ps_ret pe_bl)) pss_nil)
        (pss_one (ps_for PassesOwn.never rfl (pi_tup (pe_ix ix_tup (pv 1) (pv 3) (fun _ _ => rfl))) (pg_tup rfl (pgs_cons (pg_name (i := 4) scHr.nd rfl (Or.inr rfl)) (pgs_cons (pg_name (i := 5) scHr.nd rfl (Or.inl rfl)) (pgs_cons (pg_name (i := 6) scHr.nd rfl (Or.inl rfl)) (pgs_cons (pg_name (i := 7) scHr.nd rfl (Or.inl rfl)) pgs_nil)))))
          (pss_one (ps_if (pt_cmpR (op_neE hu0) (pe_comp (own := ["_law_one"]) (cn := ["_law_far_here", "_law_hub", "_law_place"]) (ci := [0, 4, 3]) rfl (csc rfl rfl) ⟨rfl, rfl, rfl, rfl, rfl, rfl, rfl, rfl, rfl, trivial⟩ rfl
            (pi_tup (pe_slice sl_tup (pv 2) po_none (po_some (pe_bmT PySem.F.slot_tuple_index PySem.F.type_tuple_index mt_index (pv 2) (pa_cons (pv 4) pa_nil))))) (fun _ _ _ _ => pg_name (i := 0) (nd_of rfl) rfl (Or.inl rfl))
            (fun _ _ _ _ => pts_one (pt_val (pe_call GN hr rfl mN FN.kp bN .nil pass0 (pa_cons (pv 1) (pa_cons (pv 0) (pa_cons (pv 2) (pa_cons (pv 3) pa_nil))))))) (fun _ _ _ _ => pv 0)) (pe_lst pa_nil) (nomark _)) (pss_one (ps_ret pe_bl)) pss_nil))))))
      (pss_one (ps_ret pe_bl)), ?_⟩
    obtain ⟨as, hll, hal, hla⟩ := id LA
    refine ⟨_, rfl, ll, _, rfl, .inr (SqT.of hll), ((as.map V.ref).length : Int), rfl, by rw [List.length_map]; (first | lia | omega), by rw [List.length_map]; (first | lia | omega), for_range (lo := 0) (n := ((as.map V.ref).length : Int).toNat) (fun q σ H2 => Ex5 fun (v3 v4 v5 v6 v7 : Option V) => σ = [some (.ref fl), some (.ref ll), some (.ref ol), v3, v4, v5, v6, v7] ∧ Same H H2) ⟨none, none, none, none, none, rfl, Same.refl _⟩ ?turn ?after⟩
    case after =>
      rintro σ H2 ⟨v3, v4, v5, v6, v7, rfl, s2⟩
      exact k _ s2
    case turn =>
      rintro q σ H2 hq ⟨v3, v4, v5, v6, v7, rfl, s2⟩
      rw [Int.zero_add]
      rw [List.length_map] at hq
      have hq' : q < as.length := by first | lia | omega
      have haq : as[q]? = some as[q] := List.getElem?_eq_getElem hq'
      obtain ⟨es, he, la⟩ := hla q _ haq
      have LOq := LO.2 q es he
      have LGq := LOq.lg G om om
      obtain ⟨o, r, fo, oo⟩ := LGq.zero G
      have hgq : atI (as.map V.ref) (q : Int) = some (.ref as[q]) := atI_nat (by rw [List.getElem?_map, haq]; rfl)
      refine ⟨_, rfl, _, rfl, ll, _, _, .ref as[q], rfl, rfl, SqT.of (s2 _ _ hll), hgq, as[q], es, o, r, rfl, la.same s2, fo, fun H3 s3 => ?_⟩
      rw [oo]
      refine ⟨_, rfl, rfl, _, rfl, iteNS rfl ?_⟩
      have s23 := s2.trans s3
      obtain ⟨bs, hb, EA, hel⟩ := la
      refine ⟨_, rfl, _, rfl, ll, _, _, .ref as[q], rfl, rfl, SqT.of (s23 _ _ hll), hgq, as[q], rfl, ⟨_, SqT.of (s23 _ _ hb)⟩, for_tup (K := K) (a := as[q]) (xs := bs.map V.ref) (fun j σ H4 => Ex4 fun (v4 v5 v6 v7 : Option V) => σ = [some (.ref fl), some (.ref ll), some (.ref ol), some (.int q), v4, v5, v6, v7] ∧ Same H H4) ⟨_, _, _, _, rfl, s23⟩ (fun j σ H4 _ ⟨_, _, _, _, _, e⟩ => SqT.of (e _ _ hb)) ?turn2 ?after2⟩
      case after2 =>
        rintro σ H4 ⟨v4, v5, v6, v7, rfl, s4⟩
        exact ⟨_, _, _, _, _, rfl, s4⟩
      case turn2 =>
        rintro j y σ H4 hj ⟨v4, v5, v6, v7, rfl, s4⟩
        obtain ⟨a, e, rfl, he', ha⟩ := EA.at hj
        have EO := LOq.ent e (List.mem_of_getElem? he')
        refine ⟨a, _, rfl, SqT.of (s4 _ _ ha), rfl, _, _, rfl, _, _, rfl, _, _, rfl, _, _, rfl, rfl, ?_⟩
        obtain ⟨i, hi, ei⟩ := List.getElem_of_mem (O.mem EO.rng.1 EO.rng.2)
        have hoi : os[i]? = some e.h := by rw [List.getElem?_eq_getElem hi, ei]
        have hol4 := s4 _ _ hol
        have hcut : cutV (os.map V.int) none (some (i : Int)) = (os.take i).map V.int := by
          unfold cutV
          rw [HT.sIx_none, List.drop_zero, Nat.sub_zero, List.length_map, HT.sIx_nat, List.map_take, show min i os.length = i by first | lia | omega]
        refine ⟨_, rfl, _, rfl, ⟨ol, _, rfl, hol4⟩, _, rfl, ol, os, i, e.h, rfl, rfl, SqT.of hol4, hoi, fun m hm z => ?_, _, rfl, ol, _, rfl, SqT.of hol4, ?_, fun p hp => ?_⟩
        · obtain ⟨hm', em⟩ := List.getElem?_eq_some_iff.mp z
          exact List.pairwise_iff_getElem.mp (List.nodup_iff_pairwise_ne.mp O.nd) m i hm' hi hm (by rw [em, ei])
        · rintro ⟨_, z⟩
          rw [List.length_map, HT.sIx_nat] at z
          (first | lia | omega)
        rw [hcut]
        have sp := s4.trans (same_laid (o := .tup ((os.take i).map V.int)) hp)
        have hpp : (upd H4 p (.tup ((os.take i).map V.int))) p = some (.tup ((os.take i).map V.int)) := upd_same
        generalize upd H4 p (.tup ((os.take i).map V.int)) = H5 at sp hpp ⊢
        refine ⟨p, rfl, ⟨_, SqT.of hpp⟩, [.ref fl, .int e.h, .int q], rfl, fun D hD => ?_⟩
        refine comp_tup (a := p) (xs := (os.take i).map V.int) (fun m ys H6 => ys = [] ∧ H6 = upd H5 D (.lst [])) ⟨rfl, rfl⟩ (fun m ys H6 z => ?_) (fun m ys H6 z => ?_) (fun m x ys H6 hx z => ?_) (fun ys H6 z => ?_)
        · obtain ⟨_, rfl⟩ := z
          exact SqT.of (same_laid hD _ _ hpp)
        · obtain ⟨rfl, -⟩ := z
          exact line1000 (by simp)
        · obtain ⟨rfl, rfl⟩ := z
          obtain ⟨x', hx', rfl⟩ : ∃ x', (os.take i)[m]? = some x' ∧ V.int x' = x := by
            rw [List.getElem?_map] at hx
            cases e : (os.take i)[m]? with
            | none => rw [e] at hx; cases hx
            | some b => rw [e] at hx; exact ⟨b, rfl, Option.some.inj hx⟩
          have hm : m < i := by have := (List.getElem?_eq_some_iff.mp hx').1; rw [List.length_take] at this; (first | lia | omega)
          have hom : os[m]? = some x' := by rw [List.getElem?_take_of_lt hm] at hx'; exact hx'
          have hxr := O.rng x' (List.mem_of_getElem? hom)
          have sD := sp.trans (same_laid (o := .lst []) hD)
          have FR6 : FarAt (upd H5 D (.lst [])) fl n ts M := FR.keep fun b ys z => sD _ _ z
          refine ⟨⟨rfl, rfl⟩, ?_⟩
          refine ⟨_, rfl, _, rfl, _, rfl, _, rfl, fl, n, ts, M, x', e.h, q, rfl, FR6, hxr.1, hxr.2, EO.rng.1, EO.rng.2, om, om, _, rfl, ?_⟩
          have hno : onB M x' e.h q = false := by
            cases c : onB M x' e.h q with
            | false => rfl
            | true =>
              have hb' := (onB_iff FR6 hxr.1 hxr.2 EO.rng.1 EO.rng.2 om om).mp c
              have h1 := EO.hub.2 x' hb'
              have h2 := O.pos R hoi
              have h3 := O.pos R hom
              (first | lia | omega)
          rw [hno]
          exact iteF ⟨rfl, rfl⟩
        · obtain ⟨rfl, rfl⟩ := z
          refine ⟨Nat.zero_le _, fun b hb' => ?_⟩
          refine ⟨D, b, [], rfl, rfl, SqL.of (same_laid hb' _ _ upd_same), SqL.of upd_same, _, rfl, iteF ?_⟩
          exact ⟨_, _, _, _, rfl, (sp.trans (same_laid hD)).trans (same_laid hb')⟩
end
inductive spRow_r (vs : List V) (H : Hp) (Q : VK) : Prop
  | mk : ∀ (t : Addr) (N : Nat), (vs = [.ref t]) → (TapeAt H t N) → (N < 900000) → (∀ (wa : Addr) (n : Int) (ts : List T3) (H' : Hp), WebAt H' wa n ts → TapeAt H' t (N + 100) → Sm t H H' → Q (.ref wa) H') → spRow_r vs H Q
noncomputable def spRow : Sp := fun vs H Q _ => spRow_r vs H Q
inductive RowTie_r (row : List Int) (i : Nat) (t : T3) : Prop
  | mk : ∀ x y, (row[i]? = some x) → (row[i + 1]? = some y) → (t.1 < t.2.1) → (((t.1 = x ∧ t.2.1 = y) ∨ (t.1 = y ∧ t.2.1 = x))) → (1 ≤ t.2.2) → (t.2.2 ≤ 99) → RowTie_r row i t
noncomputable def RowTie (row : List Int) (i : Nat) (t : T3) : Prop := RowTie_r row i t
theorem row_gw {n : Int} {row : List Int} {ts ts' : List T3} (h1 : 1 ≤ n) (h24 : n ≤ 24) (hp : row.Perm (lowTo n.toNat)) (hl : ts.length + 1 = n.toNat) (ht : ∀ i t, ts[i]? = some t → RowTie row i t) (hq : ts'.Perm ts) : GW n ts' := by
  have nd : row.Nodup := hp.nodup_iff.mpr ((ints_rise _).imp fun h => by first | lia | omega)
  have inr : ∀ x ∈ row, 0 ≤ x ∧ x < n := fun x hx => by
    have := mem_ints.mp (hp.mem_iff.mp hx)
    (first | lia | omega)
  refine ⟨h1, h24, by rw [hq.length_eq]; (first | lia | omega), fun t htt => ?_, ?_⟩
  · obtain ⟨i, hi, e⟩ := List.getElem_of_mem (hq.mem_iff.mp htt)
    obtain ⟨x, y, hx, hy, hlt, hor, c1, c2⟩ := ht i t (by rw [List.getElem?_eq_getElem hi, e])
    have a := inr x (List.mem_of_getElem? hx)
    have b := inr y (List.mem_of_getElem? hy)
    rcases hor with ⟨e1, e2⟩ | ⟨e1, e2⟩ <;> (first | lia | omega)
  · refine (hq.pairwise_iff (fun {a b} h z => h ⟨z.1.symm, z.2.symm⟩)).mpr ?_
    refine List.pairwise_iff_getElem.mpr fun i j hi hj hij => ?_
    obtain ⟨x, y, hx, hy, hlt, hor, -⟩ := ht i ts[i] (List.getElem?_eq_getElem hi)
    obtain ⟨x', y', hx', hy', hlt', hor', -⟩ := ht j ts[j] (List.getElem?_eq_getElem hj)
    rintro ⟨e1, e2⟩
    have inj : ∀ {a b : Nat} {v : Int}, row[a]? = some v → row[b]? = some v → a = b := fun {a b v} h h' => (List.getElem?_inj (List.getElem?_eq_some_iff.mp h).1 nd).mp (h.trans h'.symm)
    rcases hor with ⟨p1, p2⟩ | ⟨p1, p2⟩ <;> rcases hor' with ⟨q1, q2⟩ | ⟨q1, q2⟩
    · have : x = x' := by first | lia | omega
      rw [this] at hx
      have := inj hx hx'
      (first | lia | omega)
    · have f1 : x = y' := by first | lia | omega
      have f2 : y = x' := by first | lia | omega
      rw [f1] at hx
      rw [f2] at hy
      have := inj hx hy'
      (first | lia | omega)
    · have f1 : y = x' := by first | lia | omega
      have f2 : x = y' := by first | lia | omega
      rw [f2] at hx
      have := inj hx hy'
      (first | lia | omega)
    · have : x = x' := by first | lia | omega
      rw [this] at hx
      have := inj hx hx'
      (first | lia | omega)
theorem cut2 {row : List Int} {i : Nat} {x y : Int} (hx : row[i]? = some x) (hy : row[i + 1]? = some y) : cutV (row.map V.int) (some (i : Int)) (some ((i : Int) + 2)) = [x, y].map V.int := by
  have h1 := (List.getElem?_eq_some_iff.mp hx)
  have h2 := (List.getElem?_eq_some_iff.mp hy)
  obtain ⟨b1, e1⟩ := h1
  obtain ⟨b2, e2⟩ := h2
  have s1 : HT.sIx (row.map V.int).length 0 (some (i : Int)) = i := by unfold HT.sIx; rw [List.length_map]; simp only; split <;> (first | lia | omega)
  have s2 : HT.sIx (row.map V.int).length (row.map V.int).length (some ((i : Int) + 2)) = i + 2 := by unfold HT.sIx; rw [List.length_map]; simp only; split <;> (first | lia | omega)
  unfold cutV
  rw [s1, s2, show i + 2 - i = 2 by first | lia | omega, ← List.map_drop, ← List.map_take, List.drop_eq_getElem_cons b1, List.drop_eq_getElem_cons b2, e1, e2]
  rfl
theorem two_sorted {x y : Int} (hne : x ≠ y) {ms : List Int} (hp : ms.Perm [x, y]) (hr : ms.Pairwise (· ≤ ·)) : ∃ a b, ms = [a, b] ∧ a < b ∧ ((a = x ∧ b = y) ∨ (a = y ∧ b = x)) := by
  have hl := hp.length_eq
  match ms, hl with
  | [a, b], _ =>
    have hab : a ≤ b := by simpa using hr
    have ha : a = x ∨ a = y := by simpa using hp.mem_iff.mp (show a ∈ [a, b] by simp)
    have hx : x = a ∨ x = b := by simpa using hp.mem_iff.mpr (show x ∈ [x, y] by simp)
    have hy : y = a ∨ y = b := by simpa using hp.mem_iff.mpr (show y ∈ [x, y] by simp)
    refine ⟨a, b, rfl, ?_, ?_⟩
    · (first | lia | omega)
    · (first | lia | omega)
section
variable {P : Program} {w : World} {K : PySem.W.Frag} {mg : Str → Option Value} {base : Heap}
theorem scRow : FnScope ["_law_tape_here", "_law_n_here", "_law_left", "_law_row", "_law_ties", "_law_k", "_law_pair"] ["_law_tape_here"] (defScope sRow) := ⟨rfl, rfl, rfl, by decide +kernel, rfl, by decide +kernel, by decide +kernel⟩
theorem ok_row {f fD : Addr} {fd' fdD : FuncData} (F : Fun K "_law_row_web" "_law_row_web" sRow f fd') (FD : Fun K "_law_draw" "_law_draw" sDraw fD fdD) (bD : Binds K fdD ["_law_tape_here", "_law_many"] []) (mD : mg "_law_draw" = some (.ref fD))
    (mLen : mg "len" = none) (mRange : mg "range" = none) (mTuple : mg "tuple" = none) (mSorted : mg "sorted" = none) (mList : mg "list" = none) : FnOk P w K mg base CX0 2 f fd' ["_law_tape_here"] spRow := by
  have GD : FnOk P w K mg base CX0 1 fD fdD ["_law_tape_here", "_law_many"] spDrawP := ok_drawP FD mLen
  refine F.ok scRow (fun vs H Q E h => ?_) (fun cdv A outer s H vs Q E hr h => ?_)
  · obtain ⟨t, N, rfl, -⟩ := h
    rfl
  · obtain ⟨t, N, rfl, TT, hN, k⟩ := h
    obtain ⟨tp, TP⟩ := TT
    refine ⟨_, pss_cons (ps_set (i := 1) scRow.nd rfl (Or.inl rfl) (pe_op op_add pe_int (pe_call GD hr rfl mD FD.kp bD .nil pass0 (pa_cons (pv 0) (pa_int pa_nil)))))
      (pss_cons (ps_set (i := 2) scRow.nd rfl (Or.inr rfl) (pe_lrange rfl rfl mList rfl mRange (pa_cons (pv 1) pa_nil)))
      (pss_cons (ps_setC (i := 3) (own := ["_law_k"]) (cn := ["_law_left", "_law_tape_here"]) (ci := [2, 0]) scRow.nd rfl (Or.inl rfl) rfl (csc rfl rfl) ⟨rfl, rfl, rfl, rfl, rfl, rfl, trivial⟩ rfl
        (pi_range1 rfl mRange (pa_cons (pv 1) pa_nil)) (fun _ _ _ _ => pg_name (i := 0) (nd_of rfl) rfl (Or.inl rfl)) (fun _ _ _ _ => pts_nil)
        (fun _ _ _ _ => pe_bmC PySem.F.plainAttrs_list PySem.F.slot_list_pop PySem.F.type_list_pop mt_popAt (pv 1)
          (pa_cons (pe_call GD hr rfl mD FD.kp bD .nil pass0 (pa_cons (pv 2) (pa_cons (pe_callB call_len_seqC (by rfl) mLen PySem.boot_len (pa_cons (pv 1) pa_nil)) pa_nil))) pa_nil)))
      (pss_cons (ps_set (i := 4) scRow.nd rfl (Or.inl rfl) (pe_lst pa_nil))
      (pss_cons (ps_for PassesOwn.never rfl (pi_range1 rfl mRange (pa_cons (pe_op op_sub (pv 1) pe_int) pa_nil)) (pg_name (i := 5) scRow.nd rfl (Or.inl rfl))
        (pss_cons (ps_set (i := 6) scRow.nd rfl (Or.inl rfl) (pe_callB call_sortedI (by rfl) mSorted (by decide +kernel) (pa_cons (pe_slice sl_list (pv 3) (po_some (pv 5)) (po_some (pe_op op_add (pv 5) pe_int))) pa_nil)))
        (pss_one (ps_expr (pe_bm PySem.F.plainAttrs_list PySem.F.slot_list_append PySem.F.type_list_append mt_append (pv 4)
          (pa_cons (pe_tup (pa_cons (pe_ix ix_list (pv 6) pe_int (fun _ _ => rfl)) (pa_cons (pe_ix ix_list (pv 6) pe_int (fun _ _ => rfl)) (pa_cons (pe_op op_sub pe_int (pe_call GD hr rfl mD FD.kp bD .nil pass0 (pa_cons (pv 0) (pa_int pa_nil)))) pa_nil)))) pa_nil))))))
      (pss_one (ps_ret (pe_tup (pa_cons (pv 1) (pa_cons (pe_callTy call_tuple_of (by rfl) mTuple (by decide +kernel) (pa_cons (pe_callB call_sorted (by rfl) mSorted (by decide +kernel) (pa_cons (pv 4) pa_nil)) pa_nil)) pa_nil))))))))), ?_⟩
    refine ⟨_, rfl, t, tp, N, 13, rfl, TP, om, by decide, by decide, fun r H1 r0 r1 TP1 e1 => ?_⟩
    refine ⟨12, r, rfl, rfl, ?_⟩
    have s1 : Sm t H H1 := fun b o nb e => by rw [e1 b nb]; exact e
    dsimp only
    generalize hn : 12 + r = n
    have hn1 : 12 ≤ n := by first | lia | omega
    have hn24 : n ≤ 24 := by first | lia | omega
    refine ⟨_, rfl, n, rfl, om, om, fun lf hlf => ?_⟩
    have nlt : lf ≠ t := by
      obtain ⟨ns, spot, rest, a, -⟩ := TP1
      exact (ne_of_none a hlf).symm
    have nlp : lf ≠ tp := by
      obtain ⟨ns, spot, rest, _, a, -⟩ := TP1
      exact (ne_of_none a hlf).symm
    have hlf0 : H lf = none := by
      cases z : H lf with
      | none => rfl
      | some o => rw [s1 _ _ nlt z] at hlf; cases hlf
    refine ⟨_, rfl, n, rfl, om, om, [.ref lf, .ref t], rfl, fun D hD => ?_⟩
    have nDl : D ≠ lf := fun z => by rw [z, upd_same] at hD; cases hD
    have hD1 : H1 D = none := by rw [upd_ne nDl] at hD; exact hD
    have nDt : D ≠ t := by
      obtain ⟨ns, spot, rest, a, -⟩ := TP1
      exact (ne_of_none a hD1).symm
    have nDp : D ≠ tp := by
      obtain ⟨ns, spot, rest, _, a, -⟩ := TP1
      exact (ne_of_none a hD1).symm
    have hD0 : H D = none := by
      cases z : H D with
      | none => rfl
      | some o => rw [s1 _ _ nDt z] at hD1; cases hD1
    refine comp_range (lo := 0) (n := n.toNat) (fun q ys H2 => q ≤ n.toNat ∧ Ex2 fun (row left : List Int) => ys = row.map V.int ∧ row.length = q ∧ (row ++ left).Perm (lowTo n.toNat) ∧ H2 lf = some (.lst (left.map V.int)) ∧ H2 D = some (.lst ys) ∧ TapeP H2 t tp (N + 1 + q) ∧ Sm t H H2)
      ⟨Nat.zero_le _, [], lowTo n.toNat, rfl, rfl, List.Perm.refl _, by rw [upd_ne nDl.symm, upd_same], upd_same, TP1.keepF (fun o e => by rw [upd_ne nDt.symm, upd_ne nlt.symm]; exact e) (fun o e => by rw [upd_ne nDp.symm, upd_ne nlp.symm]; exact e) om, (s1.chg hlf0).chg hD0⟩ (fun q ys H2 h => ?_) (fun q ys H2 hq h => ?_) (fun ys H2 h => ?_)
    · obtain ⟨hq, row, left, rfl, hl, -⟩ := h
      rw [List.length_map, hl]
      exact small_line om
    · obtain ⟨_, row, left, rfl, hl, hp, hlf2, hD2, TP2, s2⟩ := h
      have hll : row.length + left.length = n.toNat := by
        have := hp.length_eq
        rw [List.length_append, ints_len] at this
        exact this
      refine ⟨⟨rfl, rfl⟩, ?_⟩
      refine tyes ?_
      refine ⟨_, rfl, .inl ⟨rfl, _, SqL.of hlf2⟩, ?_⟩
      refine ⟨_, rfl, _, rfl, lf, _, rfl, .inl (SqL.of hlf2), t, tp, N + 1 + q, _, rfl, TP2, om, by rw [List.length_map]; (first | lia | omega), by rw [List.length_map]; (first | lia | omega), fun rr H3 h0 h1 TP3 e3 => ?_⟩
      rw [List.length_map] at h1
      have hlt : rr.toNat < left.length := by first | lia | omega
      refine ⟨lf, left.map V.int, rr, rr.toNat, .int left[rr.toNat], rfl, rfl, by rw [e3 lf nlt]; exact hlf2, om, om, PySem.StrLaws.seqIndex_nonneg h0 (by rw [List.length_map]; (first | lia | omega)), by rw [List.getElem?_map, List.getElem?_eq_getElem hlt]; rfl, ?_⟩
      have eer : (left.map V.int).eraseIdx rr.toNat = (left.eraseIdx rr.toNat).map V.int := erase_map left rr.toNat
      rw [eer]
      have s3 : Sm t H H3 := fun b o nb e => by rw [e3 b nb]; exact s2 b o nb e
      refine ⟨by rw [upd_ne nDl, e3 D nDt]; exact hD2, hq, row ++ [left[rr.toNat]], left.eraseIdx rr.toNat, by rw [List.map_append]; rfl, by rw [List.length_append, hl]; rfl, ?_, by rw [upd_ne nDl.symm, upd_same], upd_same, TP3.keepF (fun o e => by rw [upd_ne nDt.symm, upd_ne nlt.symm]; exact e) (fun o e => by rw [upd_ne nDp.symm, upd_ne nlp.symm]; exact e) om, (s3.chg hlf0).chg hD0⟩
      refine List.Perm.trans ?_ hp
      rw [List.append_assoc]
      exact (erase_perm hlt).append_left row
    · obtain ⟨_, row, left, rfl, hl, hp, hlf2, hD2, TP2, s2⟩ := h
      have hleft : left = [] := by
        have := hp.length_eq
        rw [List.length_append, ints_len, hl] at this
        exact List.length_eq_zero_iff.mp om
      subst hleft
      rw [List.append_nil] at hp
      have nd : row.Nodup := hp.nodup_iff.mpr ((ints_rise _).imp fun h => by first | lia | omega)
      refine ⟨Nat.zero_le _, fun tl' htl => ?_⟩
      have ntt : tl' ≠ t := by
        obtain ⟨ns, spot, rest, a, -⟩ := TP2
        exact (ne_of_none a htl).symm
      have ntp : tl' ≠ tp := by
        obtain ⟨ns, spot, rest, _, a, -⟩ := TP2
        exact (ne_of_none a htl).symm
      have ntD : tl' ≠ D := (ne_of_none hD2 htl).symm
      have htl0 : H tl' = none := by
        cases z : H tl' with
        | none => rfl
        | some o => rw [s2 _ _ ntt z] at htl; cases htl
      refine ⟨_, rfl, n, 1, rfl, rfl, n - 1, rfl, om, om, for_range (lo := 0) (n := (n - 1).toNat)
        (fun i σ H3 => i ≤ (n - 1).toNat ∧ ∃ (v5 v6 : Option V) (zs : List V) (ts : List T3), σ = [some (.ref t), some (.int n), some (.ref lf), some (.ref D), some (.ref tl'), v5, v6] ∧ Sm t H H3 ∧ H3 D = some (.lst (row.map V.int)) ∧ H3 tl' = some (.lst zs) ∧ TupsAre H3 zs (ts.map tl) ∧ ts.length = i ∧ (∀ j t, ts[j]? = some t → RowTie row j t) ∧ TapeP H3 t tp (N + 30 + i))
        ⟨Nat.zero_le _, _, _, [], [], rfl, s2.chg htl0, by rw [upd_ne ntD.symm]; exact hD2, upd_same, trivial, rfl, fun j t h => by simp at h, TP2.keepF (fun o e => by rw [upd_ne ntt.symm]; exact e) (fun o e => by rw [upd_ne ntp.symm]; exact e) om⟩ ?turn ?after⟩
      case turn =>
        rintro i σ H3 hi ⟨_, v5, v6, zs, ts, rfl, s3, hD3, hz3, TA3, hts, hrt, TP3⟩
        rw [Int.zero_add]
        obtain ⟨x, hx⟩ : ∃ x, row[i]? = some x := ⟨_, List.getElem?_eq_getElem om⟩
        obtain ⟨y, hy⟩ : ∃ y, row[i + 1]? = some y := ⟨_, List.getElem?_eq_getElem om⟩
        have hxy : x ≠ y := fun z => by
          subst z
          have := (List.getElem?_inj (List.getElem?_eq_some_iff.mp hx).1 nd).mp (hx.trans hy.symm)
          (first | lia | omega)
        refine ⟨_, rfl, _, rfl, (i : Int), rfl, _, rfl, (i : Int), 2, rfl, rfl, (i : Int) + 2, rfl, D, _, rfl, SqL.of hD3, fun c1 hc1 => ?_⟩
        rw [cut2 hx hy]
        refine ⟨c1, [x, y], rfl, SqL.of upd_same, by show 2 < 64; decide, fun c2 ms hc2 hpm hrm => ?_⟩
        obtain ⟨a, b, rfl, hab, hor⟩ := two_sorted hxy hpm hrm
        have s4 : Same H3 (upd (upd H3 c1 (.lst ([x, y].map V.int))) c2 (.lst ([a, b].map V.int))) := (same_laid hc1).trans (same_laid hc2)
        have hc24 : (upd (upd H3 c1 (.lst ([x, y].map V.int))) c2 (.lst ([a, b].map V.int))) c2 = some (.lst ([a, b].map V.int)) := upd_same
        generalize upd (upd H3 c1 (.lst ([x, y].map V.int))) c2 (.lst ([a, b].map V.int)) = H4 at s4 hc24 ⊢
        have TP4 : TapeP H4 t tp (N + 30 + i) := TP3.keepF (fun o e => s4 _ _ e) (fun o e => s4 _ _ e) (Nat.le_refl _)
        refine ⟨_, rfl, .inl ⟨rfl, _, SqL.of (s4 _ _ hz3)⟩, ?_⟩
        refine ⟨_, rfl, c2, _, _, .int a, rfl, rfl, SqL.of hc24, rfl, _, rfl, c2, _, _, .int b, rfl, rfl, SqL.of hc24, rfl, ?_⟩
        refine ⟨_, rfl, t, tp, N + 30 + i, 3, rfl, TP4, om, by decide, by decide, fun dr H5 d0 d1 TP5 e5 => ?_⟩
        refine ⟨99, dr, rfl, rfl, ?_⟩
        refine ⟨by show 3 ≤ sizeLine; decide, fun q hq => ?_⟩
        have hz5 : H5 tl' = some (.lst zs) := by rw [e5 tl' ntt]; exact s4 _ _ hz3
        have hD5 : H5 D = some (.lst (row.map V.int)) := by rw [e5 D nDt]; exact s4 _ _ hD3
        have nqt : tl' ≠ q := ne_of_none hz5 hq
        refine ⟨tl', zs, _, rfl, rfl, by rw [upd_ne nqt]; exact hz5, ?_, ?_⟩
        · have e := TA3.length
          rw [List.length_map, hts] at e
          exact small_line om
        have s5 : Sm t H H5 := fun b o nb e => by rw [e5 b nb]; exact s4 _ _ (s3 b o nb e)
        refine ⟨hi, _, _, _, ts ++ [(a, b, 99 - dr)], rfl, (s5.trans (Sm.laid hq)).chg htl0, ?_, upd_same, ?_, by rw [List.length_append, hts]; rfl, ?_, ?_⟩
        · rw [upd_ne ntD.symm, upd_ne (ne_of_none hD5 hq)]; exact hD5
        · rw [List.map_append]
          refine (TA3.keep fun c xs e => ?_).snoc ⟨q, rfl, by rw [upd_ne nqt.symm, upd_same]; rfl, by simp [tl]⟩
          have e' : H5 c = some (.tup xs) := by
            have nct : c ≠ t := by
              obtain ⟨ns, spot, rest, a, -⟩ := TP3
              exact ne_of e a (by intro z; cases z)
            rw [e5 c nct]; exact s4 _ _ e
          rw [upd_ne (ne_of e' hz5 (by intro z; cases z)), upd_ne (ne_of_none e' hq)]
          exact e'
        · intro j tt hj
          by_cases hjl : j < ts.length
          · rw [List.getElem?_append_left hjl] at hj
            exact hrt j tt hj
          · rw [List.getElem?_append_right om] at hj
            cases hz : j - ts.length with
            | zero =>
              rw [hz] at hj
              have e : (a, b, 99 - dr) = tt := by simpa using hj
              subst e
              have ej : j = i := by first | lia | omega
              subst ej
              exact ⟨x, y, hx, hy, hab, hor, by show 1 ≤ 99 - dr; (first | lia | omega), by show 99 - dr ≤ 99; (first | lia | omega)⟩
            | succ m => rw [hz] at hj; simp at hj
        · have nqtt : q ≠ t := by
            obtain ⟨ns, spot, rest, a, -⟩ := TP5
            exact (ne_of_none a hq).symm
          have nqtp : q ≠ tp := by
            obtain ⟨ns, spot, rest, _, a, -⟩ := TP5
            exact (ne_of_none a hq).symm
          exact TP5.keepF (fun o e => by rw [upd_ne ntt.symm, upd_ne nqtt.symm]; exact e) (fun o e => by rw [upd_ne ntp.symm, upd_ne nqtp.symm]; exact e) om
      case after =>
        rintro σ H3 ⟨_, v5, v6, zs, ts, rfl, s3, hD3, hz3, TA3, hts, hrt, TP3⟩
        refine ⟨_, rfl, _, rfl, tl', zs, ts.map tl, rfl, SqL.of hz3, TA3, by rw [List.length_map]; (first | lia | omega), fun l1 us ms hl1 TA4 hpm _ => ?_⟩
        refine ⟨l1, us, rfl, .inl ⟨SqL.of upd_same, fun l2 hl2 => ?_⟩⟩
        obtain ⟨ts', ets, hpt⟩ : ∃ ts' : List T3, ts'.map tl = ms ∧ ts'.Perm ts := by
          refine ⟨ms.map fun k => (k.getD 0 0, k.getD 1 0, k.getD 2 0), ?_, ?_⟩
          · rw [List.map_map]
            conv => rhs; rw [← List.map_id ms]
            refine List.map_congr_left fun k hk => ?_
            obtain ⟨t', _, rfl⟩ := List.mem_map.mp (hpm.mem_iff.mp hk)
            rfl
          · have := hpm.map fun k : List Int => ((k.getD 0 0, k.getD 1 0, k.getD 2 0) : T3)
            rw [List.map_map] at this
            have e : ts.map ((fun k : List Int => ((k.getD 0 0, k.getD 1 0, k.getD 2 0) : T3)) ∘ tl) = ts := by
              conv => rhs; rw [← List.map_id ts]
              exact List.map_congr_left fun t' _ => rfl
            rw [e] at this
            exact this
        have G : GW n ts' := row_gw om hn24 hp om hrt hpt
        refine ⟨by show 2 ≤ sizeLine; decide, fun wa hwa => ?_⟩
        have s34 : Same H3 (upd (upd (upd H3 l1 (.lst us)) l2 (.tup us)) wa (.tup [.int n, .ref l2])) := ((same_laid hl1).trans (same_laid hl2)).trans (same_laid hwa)
        refine k wa n ts' _ ⟨l2, us, upd_same, ?_, ?_, G⟩ ⟨tp, TP3.keepF (fun o e => s34 _ _ e) (fun o e => s34 _ _ e) om⟩ (s3.trans (Sm.of s34))
        · rw [upd_ne (ne_of_none upd_same hwa)]; exact upd_same
        · rw [ets]; exact TA4.keep fun c xs e => s34 _ _ e
end
section
variable {X : Cx}
theorem op_isnotB : OpR X (compareOp .IsNot) (fun x y H Q => ∃ c d, x = .bl c ∧ y = .bl d ∧ Q (.bl (c != d)) H) := by
  intro pins s σ H x y v u Q I rx ry h
  obtain ⟨c, d, rfl, rfl, q⟩ := h
  cases rx
  cases ry
  exact PyProof.Rows.isnot_bool (fin_bl I q rfl)
end
theorem rise_le : ∀ {l : List Int} {a b : Int}, l.Pairwise (· < ·) → (∀ x ∈ l, a ≤ x ∧ x < b) → a ≤ b → (l.length : Int) ≤ b - a
  | [], a, b, _, _, h => by simp; (first | lia | omega)
  | x :: r, a, b, hp, hb, h => by
    have hx := hb x List.mem_cons_self
    obtain ⟨h1, h2⟩ := List.pairwise_cons.mp hp
    have := rise_le (l := r) (a := x + 1) (b := b) h2 (fun y hy => ⟨by have := h1 y hy; (first | lia | omega), (hb y (List.mem_cons_of_mem _ hy)).2⟩) om
    rw [List.length_cons]
    (first | lia | omega)
theorem LabOf.kind {n : Int} {ts : List T3} (G : GW n ts) {rk : Int → Int} {v : Int} {es : List En} (L : LabOf ts n rk v es) (v0 : 0 ≤ v) (v1 : v < n) : LKind n es := by
  refine ⟨fun e he => ?_, L.hub, ?_, ?_⟩
  · have E := L.ent e he
    refine ⟨E.rng, E.len.1.nn G, fun h0 => ?_, fun hne => ?_⟩
    · have ev := (isD_zero G E.len).mp h0
      constructor
      · have u := E.up
        cases hu : e.u with
        | none => rfl
        | some m => rw [hu] at u; exact absurd ev (u.1.ne G)
      · have u := E.dn
        cases hu : e.d with
        | none => rfl
        | some m => rw [hu] at u; exact absurd ev.symm (u.1.ne G)
    · have ev : v ≠ e.h := fun z => hne ((isD_zero G E.len).mpr z)
      obtain ⟨p, hp⟩ := Nxt.exists G E.len ev
      obtain ⟨q, hq⟩ := Nxt.exists G E.len.symm ev.symm
      obtain ⟨u, eu, pu⟩ := E.up.some_of hp
      obtain ⟨d, ed, pd⟩ := E.dn.some_of hq
      obtain ⟨l1, b1, a1, -⟩ := pu
      obtain ⟨l2, b2, a2, -⟩ := pd
      have g1 := G.adj a1
      have g2 := G.adj a2
      exact ⟨u, d, eu, ed, om, om, om, om⟩
  · have := rise_le (l := es.map (·.h)) (a := 0) (b := n) (by rw [List.pairwise_map]; exact L.hub) (fun x hx => by
      obtain ⟨e, he, rfl⟩ := List.mem_map.mp hx
      exact (L.ent e he).rng) om
    rw [List.length_map] at this
    (first | lia | omega)
  · obtain ⟨e, r, hf, -⟩ := (L.lg G v0 v1).zero G
    have hv : ∀ x ∈ es.filter (fun e => decide (e.l = 0)), x.h = v := fun x hx => by
      obtain ⟨h1, h2⟩ := List.mem_filter.mp hx
      exact ((isD_zero G (L.ent x h1).len).mp (of_decide_eq_true h2)).symm
    have hp : (es.filter (fun e => decide (e.l = 0))).Pairwise fun a b => a.h < b.h := List.Pairwise.filter _ L.hub
    rw [hf] at hv hp
    have hr : r = [] := by
      cases r with
      | nil => rfl
      | cons e' r' =>
        have h1 := hv e List.mem_cons_self
        have h2 := hv e' (List.mem_cons_of_mem _ List.mem_cons_self)
        have := (List.pairwise_cons.mp hp).1 e' List.mem_cons_self
        (first | lia | omega)
    rw [List.countP_map, List.countP_eq_length_filter]
    have : (fun x : Int => x == 0) ∘ (fun e : En => e.l) = fun e => decide (e.l = 0) := by
      funext e
      show (e.l == 0) = decide (e.l = 0)
      cases h : decide (e.l = 0) with
      | true => have := of_decide_eq_true h; rw [this]; rfl
      | false => have := of_decide_eq_false h; exact beq_false_of_ne this
    rw [this, hf, hr]
    rfl
inductive spLaw_r (K : PySem.W.Frag) (PT : Addr) (vs : List V) (H : Hp) (Q : VK) : Prop
  | mk : ∀ (a : Addr) (ns : List Int), (vs = [.ref a]) → (SqL K H a (ns.map V.int)) → (ns.length ≤ 63) → (H PT = some (.tbl #[])) → (∀ (H' : Hp), Q (.bl true) H') → spLaw_r K PT vs H Q
noncomputable def spLaw (K : PySem.W.Frag) (PT : Addr) : Sp := fun vs H Q _ => spLaw_r K PT vs H Q
theorem sm_eq {H H' : Hp} {t : Addr} (h : ∀ b, b ≠ t → H' b = H b) : Sm t H H' := fun b o n e => by rw [h b n]; exact e
theorem FarAt.sm {H H' : Hp} {fl t : Addr} {N : Nat} {n : Int} {ts : List T3} {M : List (List (Option Int))} (h : FarAt H fl n ts M) (T : TapeAt H t N) (s : Sm t H H') : FarAt H' fl n ts M := by
  obtain ⟨rs, h1, h2, h3⟩ := h
  obtain ⟨p, ns, spot, rest, ht, -⟩ := T
  have nf : fl ≠ t := fun z => by
    subst z
    rw [h1] at ht
    injection ht with ht; injection ht with ht
    match rs, ht with
    | [], ht => simp at ht
    | [_], ht => simp at ht
    | _ :: _ :: _, ht => simp at ht
  refine ⟨rs, s _ _ nf h1, h2.keep fun b ys e hb => s _ _ (fun z => ?_) e, h3⟩
  subst z
  obtain ⟨i, hi, ei⟩ := List.getElem_of_mem hb
  have hM : i < M.length := by rw [← h2.1]; exact hi
  have := h2.2.2 i b M[i] (by rw [List.getElem?_eq_getElem hi, ei]) (List.getElem?_eq_getElem hM)
  rw [this] at ht
  injection ht with ht; injection ht with ht
  match M[i], ht with
  | [], ht => simp at ht
  | none :: _, ht => simp [oV] at ht
  | some _ :: _, ht => simp [oV] at ht
theorem TapeAt.smT {H H' : Hp} {t : Addr} {N : Nat} (h : TapeAt H t N) (k : SmT H H') : TapeAt H' t N := by
  obtain ⟨p, ns, spot, rest, a, b, c⟩ := h
  exact ⟨p, ns, spot, rest, k.get a (by intro ps z; cases z), k.get b (by intro ps z; cases z), c⟩
theorem Tb_sm {H H' : Hp} {t PT : Addr} {N : Nat} (T : Tb H PT) (tp : TapeAt H t N) (k : ∀ b o, b ≠ t → H b = some o → H' b = some o) : Tb H' PT := by
  obtain ⟨p, ns, spot, rest, a, -⟩ := tp
  obtain ⟨ps, hps, -⟩ := id T
  exact T.keep (fun o ho => k _ _ (ne_of hps a (by intro z; cases z)) ho) fun c φ hc => k _ _ (ne_of hc a (by intro z; cases z)) hc
structure Kpt (H : Hp) (t wa fl PT : Addr) (N : Nat) (n : Int) (ts : List T3) (M : List (List (Option Int))) : Prop where
  tape : TapeAt H t N
  web : WebAt H wa n ts
  far : FarAt H fl n ts M
  tb : Tb H PT
section
variable {H H' : Hp} {t wa fl PT : Addr} {N N' : Nat} {n : Int} {ts : List T3} {M : List (List (Option Int))}
theorem Kpt.same (h : Kpt H t wa fl PT N n ts M) (s : Same H H') (l : N ≤ N') : Kpt H' t wa fl PT N' n ts M :=
  ⟨(h.tape.keep s).mono l, h.web.keep s, h.far.keep (fun b ys e => s _ _ e), h.tb.same s⟩
theorem Kpt.drawn (h : Kpt H t wa fl PT N n ts M) (T : TapeAt H' t N') (s : Sm t H H') : Kpt H' t wa fl PT N' n ts M :=
  ⟨T, h.web.sm h.tape s, h.far.sm h.tape s, Tb_sm h.tb h.tape s⟩
theorem Kpt.smT (h : Kpt H t wa fl PT N n ts M) (s : SmT H H') (B : Tb H' PT) : Kpt H' t wa fl PT N n ts M :=
  ⟨h.tape.smT s, h.web.smT s, h.far.keep fun b ys e => s.get e (by intro ps z; cases z), B⟩
end
section
variable {P : Program} {w : World} {K : PySem.W.Frag} {mg : Str → Option Value} {base : Heap} {PT : Addr}
theorem scLaw : FnScope ["_law_script", "_law_tape_here", "_law_k", "_law_web_here", "_law_far_here", "_law_turn", "_law_order_here", "_law_labels", "_law_one", "_law_other"] ["_law_script"] (defScope sLaw) := ⟨rfl, rfl, rfl, by decide +kernel, rfl, by decide +kernel, by decide +kernel⟩
theorem ok_law {f fTa fD fN fW fT fNe fF fLe fBw fNb fNu fWi fPl fTo fIo fBy fLb fIh fEb fA fLs fFr fJ fNs fOr fO fTl fHb fSm fE fSt fRw fOn fPr fHr fRi fE9 fL9 fA9 c : Addr} {fd' fdTa fdD fdN fdW fdT fdNe fdF fdLe fdBw fdNb fdNu fdWi fdPl fdTo fdIo fdBy fdLb fdIh fdEb fdA fdLs fdFr fdJ fdNs fdOr fdO fdTl fdHb fdSm fdE fdSt fdRw fdOn fdPr fdHr fdRi fdE9 fdL9 fdA9 : FuncData} (F : Fun K "law" "law" sLaw f fd') (C : PySem.W.CodeHd base c PT) (hbm : BmAt mg base)
    (FTa : Fun K "_law_tape" "_law_tape" sTape fTa fdTa) (bTa : Binds K fdTa ["_law_script"] []) (mTa : mg "_law_tape" = some (.ref fTa))
    (FD : Fun K "_law_draw" "_law_draw" sDraw fD fdD) (bD : Binds K fdD ["_law_tape_here", "_law_many"] []) (mD : mg "_law_draw" = some (.ref fD))
    (FN : Fun K "_law_n" "_law_n" sN fN fdN) (bN : Binds K fdN ["_law_tape_here"] []) (mN : mg "_law_n" = some (.ref fN))
    (FW : Fun K "_law_web" "_law_web" sWeb fW fdW) (bW : Binds K fdW ["_law_tape_here", "_law_n_here"] []) (mW : mg "_law_web" = some (.ref fW))
    (FT : Fun K "ties_at" "ties_at" sTies fT fdT) (bT : Binds K fdT ["web", "place"] []) (mT : mg "ties_at" = some (.ref fT))
    (FNe : FunC K "nearest" "nearest" sNear fNe fdNe c) (bNe : Binds K fdNe ["waiting"] []) (mNe : mg "nearest" = some (.ref fNe))
    (FF : Fun K "lengths_from" "lengths_from" sFrom fF fdF) (bF : Binds K fdF ["web", "start"] []) (mF : mg "lengths_from" = some (.ref fF))
    (FLe : Fun K "lengths" "lengths" sLens fLe fdLe) (bLe : Binds K fdLe ["web"] []) (mLe : mg "lengths" = some (.ref fLe))
    (FBw : Fun K "between_rows" "between_rows" sBwr fBw fdBw) (bBw : Binds K fdBw ["here", "there", "other"] []) (mBw : mg "between_rows" = some (.ref fBw))
    (FNb : Fun K "next_by_row" "next_by_row" sNbr fNb fdNb) (bNb : Binds K fdNb ["web", "one", "there"] []) (mNb : mg "next_by_row" = some (.ref fNb))
    (FNu : Fun K "is_number" "is_number" sNum fNu fdNu) (bNu : Binds K fdNu ["thing"] []) (mNu : mg "is_number" = some (.ref fNu))
    (FWi : Fun K "is_within" "is_within" sWi fWi fdWi) (bWi : Binds K fdWi ["thing", "least", "most"] []) (mWi : mg "is_within" = some (.ref fWi))
    (FPl : Fun K "is_place" "is_place" sPl fPl fdPl) (bPl : Binds K fdPl ["n", "thing"] []) (mPl : mg "is_place" = some (.ref fPl))
    (FTo : Fun K "is_tuple_of" "is_tuple_of" sTof fTo fdTo) (bTo : Binds K fdTo ["thing", "count"] []) (mTo : mg "is_tuple_of" = some (.ref fTo))
    (FIo : Fun K "is_order" "is_order" sOrd fIo fdIo) (bIo : Binds K fdIo ["web", "thing"] []) (mIo : mg "is_order" = some (.ref fIo))
    (FBy : Fun K "by_order" "by_order" sByo fBy fdBy) (bBy : Binds K fdBy ["web", "order"] []) (mBy : mg "by_order" = some (.ref fBy))
    (FLb : Fun K "label_by_ranks" "label_by_ranks" sLbr fLb fdLb) (bLb : Binds K fdLb ["web", "rows", "ranks", "place"] []) (mLb : mg "label_by_ranks" = some (.ref fLb))
    (FIh : Fun K "is_hub" "is_hub" sIsh fIh fdIh) (bIh : Binds K fdIh ["rows", "ranks", "hub", "place"] []) (mIh : mg "is_hub" = some (.ref fIh))
    (FEb : Fun K "entry_by_rows" "entry_by_rows" sEbr fEb fdEb) (bEb : Binds K fdEb ["web", "rows", "place", "hub"] []) (mEb : mg "entry_by_rows" = some (.ref fEb))
    (FA : Fun K "_law_added" "_law_added" sAdd fA fdA) (bA : Binds K fdA ["_law_one", "_law_other"] []) (mA : mg "_law_added" = some (.ref fA))
    (FLs : Fun K "_law_lesser" "_law_lesser" sLes fLs fdLs) (bLs : Binds K fdLs ["_law_one", "_law_other"] []) (mLs : mg "_law_lesser" = some (.ref fLs))
    (FFr : Fun K "_law_far" "_law_far" sFar fFr fdFr) (bFr : Binds K fdFr ["_law_web_here"] []) (mFr : mg "_law_far" = some (.ref fFr))
    (FJ : Fun K "_law_joined" "_law_joined" sJoi fJ fdJ) (bJ : Binds K fdJ ["_law_web_here"] []) (mJ : mg "_law_joined" = some (.ref fJ))
    (FNs : Fun K "_law_nexts" "_law_nexts" sNxs fNs fdNs) (bNs : Binds K fdNs ["_law_web_here", "_law_far_here", "_law_one", "_law_other"] []) (mNs : mg "_law_nexts" = some (.ref fNs))
    (FOr : Fun K "_law_order" "_law_order" sOrder fOr fdOr) (bOr : Binds K fdOr ["_law_tape_here", "_law_n_here"] []) (mOr : mg "_law_order" = some (.ref fOr))
    (FO : Fun K "own_place" "own_place" sOwn fO fdO) (bO : Binds K fdO ["label"] []) (mO : mg "own_place" = some (.ref fO))
    (FTl : Fun K "told" "told" sTold fTl fdTl) (bTl : Binds K fdTl ["one", "other"] []) (mTl : mg "told" = some (.ref fTl))
    (FHb : Fun K "told_hub" "told_hub" sHub fHb fdHb) (bHb : Binds K fdHb ["one", "other"] []) (mHb : mg "told_hub" = some (.ref fHb))
    (FSm : Fun K "least_sum" "least_sum" sSum fSm fdSm) (bSm : Binds K fdSm ["one", "other"] []) (mSm : mg "least_sum" = some (.ref fSm))
    (FE : Fun K "entry_of" "entry_of" sEnt fE fdE) (bE : Binds K fdE ["label", "hub"] []) (mE : mg "entry_of" = some (.ref fE))
    (FSt : Fun K "next_step" "next_step" sStep fSt fdSt) (bSt : Binds K fdSt ["one", "other"] []) (mSt : mg "next_step" = some (.ref fSt))
    (FRw : Fun K "_law_row_web" "_law_row_web" sRow fRw fdRw) (bRw : Binds K fdRw ["_law_tape_here"] []) (mRw : mg "_law_row_web" = some (.ref fRw))
    (FOn : Fun K "_law_on" "_law_on" sOn fOn fdOn) (bOn : Binds K fdOn ["_law_far_here", "_law_place", "_law_one", "_law_other"] []) (mOn : mg "_law_on" = some (.ref fOn))
    (FPr : Fun K "_law_pair_right" "_law_pair_right" sPr fPr fdPr) (bPr : Binds K fdPr ["_law_web_here", "_law_far_here", "_law_labels", "_law_one", "_law_other"] []) (mPr : mg "_law_pair_right" = some (.ref fPr))
    (FHr : Fun K "_law_hubs_right" "_law_hubs_right" sHr fHr fdHr) (bHr : Binds K fdHr ["_law_far_here", "_law_labels", "_law_order_here"] []) (mHr : mg "_law_hubs_right" = some (.ref fHr))
    (FRi : Fun K "is_rising" "is_rising" sRis fRi fdRi) (bRi : Binds K fdRi ["things"] []) (mRi : mg "is_rising" = some (.ref fRi))
    (FE9 : Fun K "is_entry" "is_entry" sEnt9 fE9 fdE9) (bE9 : Binds K fdE9 ["n", "thing"] []) (mE9 : mg "is_entry" = some (.ref fE9))
    (FL9 : Fun K "is_label" "is_label" sLab9 fL9 fdL9) (bL9 : Binds K fdL9 ["n", "thing"] []) (mL9 : mg "is_label" = some (.ref fL9))
    (FA9 : Fun K "are_labels" "are_labels" sLabs9 fA9 fdA9) (bA9 : Binds K fdA9 ["n", "thing"] []) (mA9 : mg "are_labels" = some (.ref fA9))
    (mLen : mg "len" = none) (mRange : mg "range" = none) (mTuple : mg "tuple" = none) (mSorted : mg "sorted" = none) (mMin : mg "min" = none) (mList : mg "list" = none) (mIsi : mg "isinstance" = none) (mInt : mg "int" = none) (mBool : mg "bool" = none) (mAll : mg "all" = none) (mSet : mg "set" = none) (mDict : mg "dict" = none) (mRepr : mg "repr" = none) : FnOk P w K mg base CX0 7 f fd' ["_law_script"] (spLaw K PT) := by
  have GTa : FnOk P w K mg base CX0 6 fTa fdTa ["_law_script"] (spTape K) := (ok_tape FTa).mono (by decide)
  have GD : FnOk P w K mg base CX0 6 fD fdD ["_law_tape_here", "_law_many"] spDraw := (ok_draw FD mLen).mono (by decide)
  have GN : FnOk P w K mg base CX0 6 fN fdN ["_law_tape_here"] spN := (ok_n FN FD bD mD mLen).mono (by decide)
  have GW' : FnOk P w K mg base CX0 6 fW fdW ["_law_tape_here", "_law_n_here"] spWeb := (ok_web FW FD bD mD mLen mRange mTuple mSorted).mono (by decide)
  have GRw : FnOk P w K mg base CX0 6 fRw fdRw ["_law_tape_here"] spRow := (ok_row FRw FD bD mD mLen mRange mTuple mSorted mList).mono (by decide)
  have GOr : FnOk P w K mg base CX0 6 fOr fdOr ["_law_tape_here", "_law_n_here"] spOrder := (ok_order FOr FD bD mD mLen mRange mTuple mList).mono (by decide)
  have GF : FnOk P w K mg base CX0 3 fF fdF ["web", "start"] (spFrom PT) := ok_from FF FNe bNe mNe FT bT mT C hbm mMin mSorted mTuple
  have GLe : FnOk P w K mg base CX0 5 fLe fdLe ["web"] (spLens PT) := (ok_lens FLe FF bF mF GF mRange mTuple).mono (by decide)
  have GIo : FnOk P w K mg base CX0 5 fIo fdIo ["web", "thing"] spOrd := (ok_ord FIo FTo bTo mTo FWi bWi mWi FPl bPl mPl FNu bNu mNu mIsi mInt mBool mTuple mLen mAll mSet).mono (by decide)
  have GIh : FnOk P w K mg base CX0 4 fIh fdIh ["rows", "ranks", "hub", "place"] spIsh := (ok_ish FIh FBw bBw mBw mRange mTuple mLen mAll).mono (by decide)
  have GEb : FnOk P w K mg base CX0 4 fEb fdEb ["web", "rows", "place", "hub"] spEbr := ok_ebr FEb FNb bNb mNb FT bT mT mSorted mTuple mMin
  have GLb : FnOk P w K mg base CX0 5 fLb fdLb ["web", "rows", "ranks", "place"] spLbr := ok_lbr FLb FIh bIh mIh GIh FEb bEb mEb GEb mRange mTuple
  have GBy : FnOk P w K mg base CX0 6 fBy fdBy ["web", "order"] (spByo PT) := ok_byo FBy FIo bIo mIo GIo FLe bLe mLe GLe FLb bLb mLb GLb mRange mTuple
  have GFr : FnOk P w K mg base CX0 6 fFr fdFr ["_law_web_here"] spFar := (ok_far FFr FA bA mA FLs bLs mLs mRange mMin).mono (by decide)
  have GTl : FnOk P w K mg base CX0 4 fTl fdTl ["one", "other"] spTold := (ok_told FTl FSm bSm mSm mDict mMin).mono (by decide)
  have GH2 : FnOk P w K mg base CX0 2 fHb fdHb ["one", "other"] spHub := ok_hub FHb FSm bSm mSm mDict mMin
  have GSt : FnOk P w K mg base CX0 4 fSt fdSt ["one", "other"] spStep := (ok_step FSt FHb bHb mHb GH2 FO bO mO FE bE mE).mono (by decide)
  have GNs : FnOk P w K mg base CX0 4 fNs fdNs ["_law_web_here", "_law_far_here", "_law_one", "_law_other"] spNxs := (ok_nxs FNs FJ bJ mJ mRange).mono (by decide)
  have GOn : FnOk P w K mg base CX0 4 fOn fdOn ["_law_far_here", "_law_place", "_law_one", "_law_other"] spOn := (ok_on FOn FA bA mA).mono (by decide)
  have GOw : FnOk P w K mg base CX0 4 fO fdO ["label"] spOwn := (ok_own FO).mono (by decide)
  have GTo : FnOk P w K mg base CX0 5 fTo fdTo ["thing", "count"] spTof := (ok_tof FTo mIsi mTuple mLen).mono (by decide)
  have GE9 : FnOk P w K mg base CX0 4 fE9 fdE9 ["n", "thing"] spEnt9 := ok_ent9 FE9 FTo bTo mTo FWi bWi mWi FPl bPl mPl FNu bNu mNu mIsi mInt mBool mTuple mLen
  have GRi : FnOk P w K mg base CX0 4 fRi fdRi ["things"] spRis := (ok_ris FRi mLen mRange mAll).mono (by decide)
  have GL9 : FnOk P w K mg base CX0 5 fL9 fdL9 ["n", "thing"] spLab9 := ok_lab9 FL9 FE9 bE9 mE9 GE9 FRi bRi mRi GRi mIsi mTuple mLen mAll
  have GA9 : FnOk P w K mg base CX0 6 fA9 fdA9 ["n", "thing"] spLabs9 := (ok_labs9 FA9 FTo bTo mTo GTo FL9 bL9 mL9 GL9 mAll).mono (by decide)
  have GPr : FnOk P w K mg base CX0 6 fPr fdPr ["_law_web_here", "_law_far_here", "_law_labels", "_law_one", "_law_other"] spPr := (ok_pr FPr FTl bTl mTl GTl FHb bHb mHb (GH2.mono (by decide)) FSt bSt mSt GSt FOn bOn mOn GOn FNs bNs mNs GNs mRepr mIsi mBool).mono (by decide)
  have GHr : FnOk P w K mg base CX0 6 fHr fdHr ["_law_far_here", "_law_labels", "_law_order_here"] spHr := (ok_hr FHr FO bO mO GOw FOn bOn mOn GOn mLen mRange).mono (by decide)
  refine F.ok scLaw (fun vs H Q E h => ?_) (fun cdv A outer s H vs Q E hr h => ?_)
  · obtain ⟨a, ns, rfl, -⟩ := h
    rfl
  · obtain ⟨a, ns, rfl, hS, hlen, hP, k⟩ := h
    refine ⟨_, pss_cons (ps_set (i := 1) scLaw.nd rfl (Or.inl rfl) (pe_call GTa hr rfl mTa FTa.kp bTa .nil pass0 (pa_cons (pv 0) pa_nil)))
      (pss_cons (ps_for PassesOwn.never rfl (pi_range1 rfl mRange (pa_cons pe_int pa_nil)) (pg_name (i := 2) scLaw.nd rfl (Or.inl rfl))
        (pss_cons (ps_set (i := 3) scLaw.nd rfl (Or.inl rfl) (pe_call GW' hr rfl mW FW.kp bW .nil pass0 (pa_cons (pv 1) (pa_cons (pe_call GN hr rfl mN FN.kp bN .nil pass0 (pa_cons (pv 1) pa_nil)) pa_nil))))
        (pss_cons (ps_if (PW.pt (pw_and (pt_cmpR op_eq (pv 2) pe_int (nomark _)) (pw_and1 (pt_cmpR op_eq (pe_call GD hr rfl mD FD.kp bD .nil pass0 (pa_cons (pv 1) (pa_cons pe_int pa_nil))) pe_int (nomark _)))))
          (pss_one (ps_set (i := 3) scLaw.nd rfl (Or.inl rfl) (pe_call GRw hr rfl mRw FRw.kp bRw .nil pass0 (pa_cons (pv 1) pa_nil)))) pss_nil)
        (pss_cons (ps_set (i := 4) scLaw.nd rfl (Or.inl rfl) (pe_call GFr hr rfl mFr FFr.kp bFr .nil pass0 (pa_cons (pv 3) pa_nil)))
        (pss_one (ps_for PassesOwn.never rfl (pi_range1 rfl mRange (pa_cons pe_int pa_nil)) (pg_name (i := 5) scLaw.nd rfl (Or.inl rfl))
          (pss_cons (ps_set (i := 6) scLaw.nd rfl (Or.inl rfl) (pe_call GOr hr rfl mOr FOr.kp bOr .nil pass0 (pa_cons (pv 1) (pa_cons (pe_ix ix_tup (pv 3) pe_int (fun _ _ => rfl)) pa_nil))))
          (pss_cons (ps_set (i := 7) scLaw.nd rfl (Or.inl rfl) (pe_call GBy hr rfl mBy FBy.kp bBy .nil pass0 (pa_cons (pv 3) (pa_cons (pv 6) pa_nil))))
          (pss_cons (ps_if (PW.pt (pw_or (pt_cmpR op_isnotB (pe_call GA9 hr rfl mA9 FA9.kp bA9 .nil pass0 (pa_cons (pe_ix ix_tup (pv 3) pe_int (fun _ _ => rfl)) (pa_cons (pv 7) pa_nil))) pe_bl (nomark _))
            (pw_or1 (pt_not (pt_val (pe_call GHr hr rfl mHr FHr.kp bHr .nil pass0 (pa_cons (pv 4) (pa_cons (pv 7) (pa_cons (pv 6) pa_nil))))))))) (pss_one (ps_ret pe_bl)) pss_nil)
          (pss_one (ps_for PassesOwn.never rfl (pi_range1 rfl mRange (pa_cons (pe_ix ix_tup (pv 3) pe_int (fun _ _ => rfl)) pa_nil)) (pg_name (i := 8) scLaw.nd rfl (Or.inl rfl))
            (pss_one (ps_for PassesOwn.never rfl (pi_range1 rfl mRange (pa_cons (pe_ix ix_tup (pv 3) pe_int (fun _ _ => rfl)) pa_nil)) (pg_name (i := 9) scLaw.nd rfl (Or.inl rfl))
              (pss_one (ps_if (pt_not (pt_val (pe_call GPr hr rfl mPr FPr.kp bPr .nil pass0 (pa_cons (pv 3) (pa_cons (pv 4) (pa_cons (pv 7) (pa_cons (pv 8) (pa_cons (pv 9) pa_nil)))))))) (pss_one (ps_ret pe_bl)) pss_nil)))))))))))))))
      (pss_one (ps_ret pe_bl))), ?_⟩
    refine ⟨_, rfl, a, ns, rfl, hS, hlen, fun t H1 ht T1 s1 => ?_⟩
    have B1 : Tb H1 PT := ⟨#[], s1 _ _ hP, trivial, .inl rfl⟩
    refine ⟨3, rfl, by decide, by decide, for_range (lo := 0) (n := 3) (fun i σ H2 => Ex8 fun (v2 v3 v4 v5 v6 v7 v8 v9 : Option V) => C3 (σ = [some (.ref a), some (.ref t), v2, v3, v4, v5, v6, v7, v8, v9]) (TapeAt H2 t (2000 * i)) (Tb H2 PT)) ⟨none, none, none, none, none, none, none, none, rfl, T1, B1⟩ ?turn ?after⟩
    case after =>
      rintro σ H2 ⟨v2, v3, v4, v5, v6, v7, v8, v9, rfl, T2, B2⟩
      exact k _
    case turn =>
      rintro i σ H2 hi ⟨v2, v3, v4, v5, v6, v7, v8, v9, rfl, T2, B2⟩
      refine ⟨_, rfl, _, rfl, t, 2000 * i, rfl, T2, om, fun n H3 hn1 hn12 T30 s3 => ?_⟩
      have B3 : Tb H3 PT := Tb_sm B2 T2 s3
      refine ⟨t, _, n, rfl, T30, om, hn1, om, fun wa ts H4 hwa0 W4 T4 s40 => ?_⟩
      have B4 : Tb H4 PT := Tb_sm B3 T30 s40
      refine ⟨_, rfl, rfl, _, rfl, ?_⟩
      refine ite2 (fun hc => ?x) (fun hc => ?c)
      case' x =>
        refine ⟨_, rfl, t, _, 4, rfl, T4, om, by decide, by decide, fun r H41 r0 r1 T41 e41 => ?_⟩
        refine ⟨rfl, _, rfl, ?_⟩
        have B41 : Tb H41 PT := Tb_sm B4 T4 (sm_eq e41)
        have W41 : WebAt H41 wa n ts := W4.sm T4 (sm_eq e41)
        refine ite2 (fun hd => ?a) (fun hd => ?b)
      case' a =>
        refine ⟨_, rfl, t, _, rfl, T41, om, fun wa n ts H4 W4 T4' s4 => ?_⟩
        have B4 : Tb H4 PT := Tb_sm B41 T41 s4
        have T4 : TapeAt H4 t (2000 * i + 1000) := T4'.mono om
      case' b =>
        have B4 : Tb H41 PT := B41
        have W4 : WebAt H41 wa n ts := W41
        have T4 : TapeAt H41 t (2000 * i + 1000) := T41.mono om
      case' c =>
        have T4 : TapeAt H4 t (2000 * i + 1000) := T4.mono om
        refine iteF ?_
      all_goals
        obtain ⟨ta, tys, hwa, _, _, G⟩ := id W4
        have hn24 := G.n24
        have hn1 := G.n1
        refine ⟨_, rfl, wa, n, ts, rfl, W4, fun fl rs M H5 s5 hfl LR RR => ?_⟩
        have K5 : Kpt H5 t wa fl PT (2000 * i + 1000) n ts M := ⟨T4.keep s5, W4.keep s5, ⟨rs, hfl, LR, RR⟩, B4.same s5⟩
        refine ⟨2, rfl, by decide, by decide, for_range (lo := 0) (n := 2) (fun j σ H6 => Ex6 fun (v2 v5 v6 v7 v8 v9 : Option V) => σ = [some (.ref a), some (.ref t), v2, some (.ref wa), some (.ref fl), v5, v6, v7, v8, v9] ∧ Kpt H6 t wa fl PT (2000 * i + 1000 + 24 * j) n ts M) ⟨_, _, _, _, _, _, rfl, K5⟩ ?turn2 ?after2⟩
        case after2 =>
          rintro σ H6 ⟨v2, v5, v6, v7, v8, v9, rfl, K6⟩
          exact ⟨_, _, _, _, _, _, _, _, rfl, K6.tape.mono om, K6.tb⟩
        case turn2 =>
          rintro j σ H6 hj ⟨v2, v5, v6, v7, v8, v9, rfl, K6⟩
          obtain ⟨ta1, tys1, hwa1, -⟩ := K6.web
          refine ⟨_, rfl, _, rfl, wa, _, _, _, rfl, rfl, SqT.of hwa1, rfl, t, _, n, rfl, K6.tape, om, hn1, hn24, fun ol os H7 hol O T7 s7 => ?_⟩
          have K7 := K6.drawn T7 s7
          refine ⟨_, rfl, _, rfl, wa, ol, n, ts, os, rfl, K7.web, hol, O, K7.tb, fun ll ess rk H8 sm8 B8 LA8 RK LO => ?_⟩
          have K8 := K7.smT sm8 B8
          have LGd := LO.good G RK
          have hol8 : H8 ol = some (.tup (os.map V.int)) := sm8.get hol (by intro ps z; cases z)
          obtain ⟨ta2, tys2, hwa2, -⟩ := K8.web
          have hess := LO.1
          have hkd : ∀ es ∈ ess, LKind n es := fun es he => by
            obtain ⟨q, hq, eq⟩ := List.getElem_of_mem he
            have := LO.2 q es (by rw [List.getElem?_eq_getElem hq, eq])
            exact this.kind G om om
          refine ⟨_, rfl, wa, _, _, _, rfl, rfl, SqT.of hwa2, rfl, _, rfl, n, ll, ess, rfl, LA8, om, hn24, hkd, fun H9 s9 => ?_⟩
          refine ⟨_, _, rfl, rfl, _, rfl, iteF ?_⟩
          have K9 := K8.same s9 (Nat.le_refl _)
          have LA9 : LabsAt H9 ll ess := LA8.keep (fun b ys e => s9 _ _ e)
          refine ⟨_, rfl, _, rfl, _, rfl, fl, ll, ol, n, ts, M, ess, os, rk, rfl, G, K9.far, LA9, LO, s9 _ _ hol8, O, RK, fun H10 s10 => ?_⟩
          refine ⟨_, rfl, iteF ?_⟩
          have K10 := K9.same s10 (Nat.le_refl _)
          have LA10 : LabsAt H10 ll ess := LA9.keep (fun b ys e => s10 _ _ e)
          obtain ⟨ta3, tys3, hwa3, -⟩ := K10.web
          refine ⟨_, rfl, wa, _, _, _, rfl, rfl, SqT.of hwa3, rfl, n, rfl, om, om, for_range (lo := 0) (n := n.toNat) (fun x σ H11 => Ex5 fun (v2 v5 v6 v8 v9 : Option V) => C3 (σ = [some (.ref a), some (.ref t), v2, some (.ref wa), some (.ref fl), v5, v6, some (.ref ll), v8, v9]) (Kpt H11 t wa fl PT (2000 * i + 1000 + 24 * j + 24) n ts M) (LabsAt H11 ll ess)) ⟨_, _, _, _, _, rfl, K10, LA10⟩ ?turn3 ?after3⟩
          case after3 =>
            rintro σ H11 ⟨v2, v5, v6, v8, v9, rfl, K11, _⟩
            exact ⟨_, _, _, _, _, _, rfl, K11.same (Same.refl _) om⟩
          case turn3 =>
            rintro x σ H11 hx ⟨v2, v5, v6, v8, v9, rfl, K11, LA11⟩
            obtain ⟨ta4, tys4, hwa4, -⟩ := K11.web
            refine ⟨_, rfl, wa, _, _, _, rfl, rfl, SqT.of hwa4, rfl, n, rfl, om, om, for_range (lo := 0) (n := n.toNat) (fun y σ H12 => Ex4 fun (v2 v5 v6 v9 : Option V) => C3 (σ = [some (.ref a), some (.ref t), v2, some (.ref wa), some (.ref fl), v5, v6, some (.ref ll), some (.int (0 + (x : Int))), v9]) (Kpt H12 t wa fl PT (2000 * i + 1000 + 24 * j + 24) n ts M) (LabsAt H12 ll ess)) ⟨_, _, _, _, rfl, K11, LA11⟩ ?turn4 ?after4⟩
            case after4 =>
              rintro σ H12 ⟨v2, v5, v6, v9, rfl, K12, LA12⟩
              exact ⟨_, _, _, _, _, rfl, K12, LA12⟩
            case turn4 =>
              rintro y σ H12 hy ⟨v2, v5, v6, v9, rfl, K12, LA12⟩
              refine ⟨_, rfl, _, rfl, _, rfl, _, rfl, _, rfl, wa, fl, ll, n, ts, M, ess, _, _, rfl, K12.web, K12.far, LA12, LGd, om, om, om, om, fun H13 s13 => ?_⟩
              refine ⟨_, rfl, iteF ?_⟩
              exact ⟨_, _, _, _, rfl, K12.same s13 (Nat.le_refl _), LA12.keep (fun b ys e => s13 _ _ e)⟩
end
theorem ucons {us : List Value} {n : Nat} (h : us.length = n + 1) : ∃ a r, us = a :: r ∧ r.length = n := by
  cases us with
  | nil => cases h
  | cons a r => exact ⟨a, r, rfl, Nat.succ.inj h⟩
theorem unil {us : List Value} (h : us.length = 0) : us = [] := List.eq_nil_of_length_eq_zero h
theorem usl1 {us : List Value} (h0 : us.length = 1) : ∃ u0, us = [u0] := by
  obtain ⟨u0, r0, e0, h1⟩ := ucons h0
  exact ⟨u0, by rw [e0, unil h1]⟩
theorem usl2 {us : List Value} (h0 : us.length = 2) : ∃ u0 u1, us = [u0, u1] := by
  obtain ⟨u0, r0, e0, h1⟩ := ucons h0
  obtain ⟨u1, r1, e1, h2⟩ := ucons h1
  exact ⟨u0, u1, by rw [e0, e1, unil h2]⟩
theorem usl3 {us : List Value} (h0 : us.length = 3) : ∃ u0 u1 u2, us = [u0, u1, u2] := by
  obtain ⟨u0, r0, e0, h1⟩ := ucons h0
  obtain ⟨u1, r1, e1, h2⟩ := ucons h1
  obtain ⟨u2, r2, e2, h3⟩ := ucons h2
  exact ⟨u0, u1, u2, by rw [e0, e1, e2, unil h3]⟩
theorem usl4 {us : List Value} (h0 : us.length = 4) : ∃ u0 u1 u2 u3, us = [u0, u1, u2, u3] := by
  obtain ⟨u0, r0, e0, h1⟩ := ucons h0
  obtain ⟨u1, r1, e1, h2⟩ := ucons h1
  obtain ⟨u2, r2, e2, h3⟩ := ucons h2
  obtain ⟨u3, r3, e3, h4⟩ := ucons h3
  exact ⟨u0, u1, u2, u3, by rw [e0, e1, e2, e3, unil h4]⟩
theorem usl5 {us : List Value} (h0 : us.length = 5) : ∃ u0 u1 u2 u3 u4, us = [u0, u1, u2, u3, u4] := by
  obtain ⟨u0, r0, e0, h1⟩ := ucons h0
  obtain ⟨u1, r1, e1, h2⟩ := ucons h1
  obtain ⟨u2, r2, e2, h3⟩ := ucons h2
  obtain ⟨u3, r3, e3, h4⟩ := ucons h3
  obtain ⟨u4, r4, e4, h5⟩ := ucons h4
  exact ⟨u0, u1, u2, u3, u4, by rw [e0, e1, e2, e3, e4, unil h5]⟩
theorem usl6 {us : List Value} (h0 : us.length = 6) : ∃ u0 u1 u2 u3 u4 u5, us = [u0, u1, u2, u3, u4, u5] := by
  obtain ⟨u0, r0, e0, h1⟩ := ucons h0
  obtain ⟨u1, r1, e1, h2⟩ := ucons h1
  obtain ⟨u2, r2, e2, h3⟩ := ucons h2
  obtain ⟨u3, r3, e3, h4⟩ := ucons h3
  obtain ⟨u4, r4, e4, h5⟩ := ucons h4
  obtain ⟨u5, r5, e5, h6⟩ := ucons h5
  exact ⟨u0, u1, u2, u3, u4, u5, by rw [e0, e1, e2, e3, e4, e5, unil h6]⟩
theorem usl7 {us : List Value} (h0 : us.length = 7) : ∃ u0 u1 u2 u3 u4 u5 u6, us = [u0, u1, u2, u3, u4, u5, u6] := by
  obtain ⟨u0, r0, e0, h1⟩ := ucons h0
  obtain ⟨u1, r1, e1, h2⟩ := ucons h1
  obtain ⟨u2, r2, e2, h3⟩ := ucons h2
  obtain ⟨u3, r3, e3, h4⟩ := ucons h3
  obtain ⟨u4, r4, e4, h5⟩ := ucons h4
  obtain ⟨u5, r5, e5, h6⟩ := ucons h5
  obtain ⟨u6, r6, e6, h7⟩ := ucons h6
  exact ⟨u0, u1, u2, u3, u4, u5, u6, by rw [e0, e1, e2, e3, e4, e5, e6, unil h7]⟩
theorem all_mk {l : PySem.W.OpenLaw} {w : World} {K : PySem.W.Frag} {h : Heap} {mg : Str → Option Value} {fa cc PT fTa fD fN fW fT fNe fF fLe fBw fNb fNu fWi fPl fTo fIo fBy fLb fIh fEb fA fLs fFr fJ fNs fOr fO fTl fHb fSm fE fSt fRw fOn fPr fHr fRi fE9 fL9 fA9 fZ : Addr} (X : K.In h) (G : h.Ns mainGlobals mg) (hfa : mg "law" = some (.ref fa))
    {odTa anTa odD anD odN anN odW anW odT anT odNe anNe odF anF odLe anLe odBw anBw odNb anNb odNu anNu odWi anWi odPl anPl odTo anTo odIo anIo odBy anBy odLb anLb odIh anIh odEb anEb odA anA odLs anLs odFr anFr odJ anJ odNs anNs odOr anOr odO anO odTl anTl odHb anHb odSm anSm odE anE odSt anSt odRw anRw odOn anOn odPr anPr odHr anHr odRi anRi odE9 anE9 odL9 anL9 odA9 anA9 odZ anZ : Option Addr} {slTa slD slN slW slT slNe slF slLe slBw slNb slNu slWi slPl slTo slIo slBy slLb slIh slEb slA slLs slFr slJ slNs slOr slO slTl slHb slSm slE slSt slRw slOn slPr slHr slRi slE9 slL9 slA9 slZ : Array (Option Value)} {ocTa kVTa dcTa pmTa ctTa cdTa ocD kVD dcD pmD ctD cdD ocN kVN dcN pmN ctN cdN ocW kVW dcW pmW ctW cdW ocT kVT dcT pmT ctT cdT ocNe kVNe dcNe pmNe ctNe ocF kVF dcF pmF ctF cdF ocLe kVLe dcLe pmLe ctLe cdLe ocBw kVBw dcBw pmBw ctBw cdBw ocNb kVNb dcNb pmNb ctNb cdNb ocNu kVNu dcNu pmNu ctNu cdNu ocWi kVWi dcWi pmWi ctWi cdWi ocPl kVPl dcPl pmPl ctPl cdPl ocTo kVTo dcTo pmTo ctTo cdTo ocIo kVIo dcIo pmIo ctIo cdIo ocBy kVBy dcBy pmBy ctBy cdBy ocLb kVLb dcLb pmLb ctLb cdLb ocIh kVIh dcIh pmIh ctIh cdIh ocEb kVEb dcEb pmEb ctEb cdEb ocA kVA dcA pmA ctA cdA ocLs kVLs dcLs pmLs ctLs cdLs ocFr kVFr dcFr pmFr ctFr cdFr ocJ kVJ dcJ pmJ ctJ cdJ ocNs kVNs dcNs pmNs ctNs cdNs ocOr kVOr dcOr pmOr ctOr cdOr ocO kVO dcO pmO ctO cdO ocTl kVTl dcTl pmTl ctTl cdTl ocHb kVHb dcHb pmHb ctHb cdHb ocSm kVSm dcSm pmSm ctSm cdSm ocE kVE dcE pmE ctE cdE ocSt kVSt dcSt pmSt ctSt cdSt ocRw kVRw dcRw pmRw ctRw cdRw ocOn kVOn dcOn pmOn ctOn cdOn ocPr kVPr dcPr pmPr ctPr cdPr ocHr kVHr dcHr pmHr ctHr cdHr ocRi kVRi dcRi pmRi ctRi cdRi ocE9 kVE9 dcE9 pmE9 ctE9 cdE9 ocL9 kVL9 dcL9 pmL9 ctL9 cdL9 ocA9 kVA9 dcA9 pmA9 ctA9 cdA9 ocZ kVZ dcZ pmZ ctZ cdZ : Value}
    (aTa : PySem.W.nsIn K mainGlobals "_law_tape" = some (some (.ref fTa))) (lTa : K.lookup fTa = some ⟨ocTa, odTa, .func (PySem.W.fnOf "_law_tape" "_law_tape" (defArgs sTape) (defBody sTape) (defScope sTape) .none kVTa dcTa pmTa anTa cdTa ctTa), slTa⟩) (cTa : PySem.W.codeIn K cdTa "_law_tape" = true) (kTa : PySem.W.keepIn K (.ref fTa) = true)
    (aD : PySem.W.nsIn K mainGlobals "_law_draw" = some (some (.ref fD))) (lD : K.lookup fD = some ⟨ocD, odD, .func (PySem.W.fnOf "_law_draw" "_law_draw" (defArgs sDraw) (defBody sDraw) (defScope sDraw) .none kVD dcD pmD anD cdD ctD), slD⟩) (cD : PySem.W.codeIn K cdD "_law_draw" = true) (kD : PySem.W.keepIn K (.ref fD) = true)
    (aN : PySem.W.nsIn K mainGlobals "_law_n" = some (some (.ref fN))) (lN : K.lookup fN = some ⟨ocN, odN, .func (PySem.W.fnOf "_law_n" "_law_n" (defArgs sN) (defBody sN) (defScope sN) .none kVN dcN pmN anN cdN ctN), slN⟩) (cN : PySem.W.codeIn K cdN "_law_n" = true) (kN : PySem.W.keepIn K (.ref fN) = true)
    (aW : PySem.W.nsIn K mainGlobals "_law_web" = some (some (.ref fW))) (lW : K.lookup fW = some ⟨ocW, odW, .func (PySem.W.fnOf "_law_web" "_law_web" (defArgs sWeb) (defBody sWeb) (defScope sWeb) .none kVW dcW pmW anW cdW ctW), slW⟩) (cW : PySem.W.codeIn K cdW "_law_web" = true) (kW : PySem.W.keepIn K (.ref fW) = true)
    (aT : PySem.W.nsIn K mainGlobals "ties_at" = some (some (.ref fT))) (lT : K.lookup fT = some ⟨ocT, odT, .func (PySem.W.fnOf "ties_at" "ties_at" (defArgs sTies) (defBody sTies) (defScope sTies) .none kVT dcT pmT anT cdT ctT), slT⟩) (cT : PySem.W.codeIn K cdT "ties_at" = true) (kT : PySem.W.keepIn K (.ref fT) = true)
    (aNe : PySem.W.nsIn K mainGlobals "nearest" = some (some (.ref fNe))) (lNe : K.lookup fNe = some ⟨ocNe, odNe, .func (PySem.W.fnOf "nearest" "nearest" (defArgs sNear) (defBody sNear) (defScope sNear) .none kVNe dcNe pmNe anNe (.ref cc) ctNe), slNe⟩) (cNe : PySem.W.codeIn K (.ref cc) "nearest" = true) (kNe : PySem.W.keepIn K (.ref fNe) = true)
    (aF : PySem.W.nsIn K mainGlobals "lengths_from" = some (some (.ref fF))) (lF : K.lookup fF = some ⟨ocF, odF, .func (PySem.W.fnOf "lengths_from" "lengths_from" (defArgs sFrom) (defBody sFrom) (defScope sFrom) .none kVF dcF pmF anF cdF ctF), slF⟩) (cF : PySem.W.codeIn K cdF "lengths_from" = true) (kF : PySem.W.keepIn K (.ref fF) = true)
    (aLe : PySem.W.nsIn K mainGlobals "lengths" = some (some (.ref fLe))) (lLe : K.lookup fLe = some ⟨ocLe, odLe, .func (PySem.W.fnOf "lengths" "lengths" (defArgs sLens) (defBody sLens) (defScope sLens) .none kVLe dcLe pmLe anLe cdLe ctLe), slLe⟩) (cLe : PySem.W.codeIn K cdLe "lengths" = true) (kLe : PySem.W.keepIn K (.ref fLe) = true)
    (aBw : PySem.W.nsIn K mainGlobals "between_rows" = some (some (.ref fBw))) (lBw : K.lookup fBw = some ⟨ocBw, odBw, .func (PySem.W.fnOf "between_rows" "between_rows" (defArgs sBwr) (defBody sBwr) (defScope sBwr) .none kVBw dcBw pmBw anBw cdBw ctBw), slBw⟩) (cBw : PySem.W.codeIn K cdBw "between_rows" = true) (kBw : PySem.W.keepIn K (.ref fBw) = true)
    (aNb : PySem.W.nsIn K mainGlobals "next_by_row" = some (some (.ref fNb))) (lNb : K.lookup fNb = some ⟨ocNb, odNb, .func (PySem.W.fnOf "next_by_row" "next_by_row" (defArgs sNbr) (defBody sNbr) (defScope sNbr) .none kVNb dcNb pmNb anNb cdNb ctNb), slNb⟩) (cNb : PySem.W.codeIn K cdNb "next_by_row" = true) (kNb : PySem.W.keepIn K (.ref fNb) = true)
    (aNu : PySem.W.nsIn K mainGlobals "is_number" = some (some (.ref fNu))) (lNu : K.lookup fNu = some ⟨ocNu, odNu, .func (PySem.W.fnOf "is_number" "is_number" (defArgs sNum) (defBody sNum) (defScope sNum) .none kVNu dcNu pmNu anNu cdNu ctNu), slNu⟩) (cNu : PySem.W.codeIn K cdNu "is_number" = true) (kNu : PySem.W.keepIn K (.ref fNu) = true)
    (aWi : PySem.W.nsIn K mainGlobals "is_within" = some (some (.ref fWi))) (lWi : K.lookup fWi = some ⟨ocWi, odWi, .func (PySem.W.fnOf "is_within" "is_within" (defArgs sWi) (defBody sWi) (defScope sWi) .none kVWi dcWi pmWi anWi cdWi ctWi), slWi⟩) (cWi : PySem.W.codeIn K cdWi "is_within" = true) (kWi : PySem.W.keepIn K (.ref fWi) = true)
    (aPl : PySem.W.nsIn K mainGlobals "is_place" = some (some (.ref fPl))) (lPl : K.lookup fPl = some ⟨ocPl, odPl, .func (PySem.W.fnOf "is_place" "is_place" (defArgs sPl) (defBody sPl) (defScope sPl) .none kVPl dcPl pmPl anPl cdPl ctPl), slPl⟩) (cPl : PySem.W.codeIn K cdPl "is_place" = true) (kPl : PySem.W.keepIn K (.ref fPl) = true)
    (aTo : PySem.W.nsIn K mainGlobals "is_tuple_of" = some (some (.ref fTo))) (lTo : K.lookup fTo = some ⟨ocTo, odTo, .func (PySem.W.fnOf "is_tuple_of" "is_tuple_of" (defArgs sTof) (defBody sTof) (defScope sTof) .none kVTo dcTo pmTo anTo cdTo ctTo), slTo⟩) (cTo : PySem.W.codeIn K cdTo "is_tuple_of" = true) (kTo : PySem.W.keepIn K (.ref fTo) = true)
    (aIo : PySem.W.nsIn K mainGlobals "is_order" = some (some (.ref fIo))) (lIo : K.lookup fIo = some ⟨ocIo, odIo, .func (PySem.W.fnOf "is_order" "is_order" (defArgs sOrd) (defBody sOrd) (defScope sOrd) .none kVIo dcIo pmIo anIo cdIo ctIo), slIo⟩) (cIo : PySem.W.codeIn K cdIo "is_order" = true) (kIo : PySem.W.keepIn K (.ref fIo) = true)
    (aBy : PySem.W.nsIn K mainGlobals "by_order" = some (some (.ref fBy))) (lBy : K.lookup fBy = some ⟨ocBy, odBy, .func (PySem.W.fnOf "by_order" "by_order" (defArgs sByo) (defBody sByo) (defScope sByo) .none kVBy dcBy pmBy anBy cdBy ctBy), slBy⟩) (cBy : PySem.W.codeIn K cdBy "by_order" = true) (kBy : PySem.W.keepIn K (.ref fBy) = true)
    (aLb : PySem.W.nsIn K mainGlobals "label_by_ranks" = some (some (.ref fLb))) (lLb : K.lookup fLb = some ⟨ocLb, odLb, .func (PySem.W.fnOf "label_by_ranks" "label_by_ranks" (defArgs sLbr) (defBody sLbr) (defScope sLbr) .none kVLb dcLb pmLb anLb cdLb ctLb), slLb⟩) (cLb : PySem.W.codeIn K cdLb "label_by_ranks" = true) (kLb : PySem.W.keepIn K (.ref fLb) = true)
    (aIh : PySem.W.nsIn K mainGlobals "is_hub" = some (some (.ref fIh))) (lIh : K.lookup fIh = some ⟨ocIh, odIh, .func (PySem.W.fnOf "is_hub" "is_hub" (defArgs sIsh) (defBody sIsh) (defScope sIsh) .none kVIh dcIh pmIh anIh cdIh ctIh), slIh⟩) (cIh : PySem.W.codeIn K cdIh "is_hub" = true) (kIh : PySem.W.keepIn K (.ref fIh) = true)
    (aEb : PySem.W.nsIn K mainGlobals "entry_by_rows" = some (some (.ref fEb))) (lEb : K.lookup fEb = some ⟨ocEb, odEb, .func (PySem.W.fnOf "entry_by_rows" "entry_by_rows" (defArgs sEbr) (defBody sEbr) (defScope sEbr) .none kVEb dcEb pmEb anEb cdEb ctEb), slEb⟩) (cEb : PySem.W.codeIn K cdEb "entry_by_rows" = true) (kEb : PySem.W.keepIn K (.ref fEb) = true)
    (aA : PySem.W.nsIn K mainGlobals "_law_added" = some (some (.ref fA))) (lA : K.lookup fA = some ⟨ocA, odA, .func (PySem.W.fnOf "_law_added" "_law_added" (defArgs sAdd) (defBody sAdd) (defScope sAdd) .none kVA dcA pmA anA cdA ctA), slA⟩) (cA : PySem.W.codeIn K cdA "_law_added" = true) (kA : PySem.W.keepIn K (.ref fA) = true)
    (aLs : PySem.W.nsIn K mainGlobals "_law_lesser" = some (some (.ref fLs))) (lLs : K.lookup fLs = some ⟨ocLs, odLs, .func (PySem.W.fnOf "_law_lesser" "_law_lesser" (defArgs sLes) (defBody sLes) (defScope sLes) .none kVLs dcLs pmLs anLs cdLs ctLs), slLs⟩) (cLs : PySem.W.codeIn K cdLs "_law_lesser" = true) (kLs : PySem.W.keepIn K (.ref fLs) = true)
    (aFr : PySem.W.nsIn K mainGlobals "_law_far" = some (some (.ref fFr))) (lFr : K.lookup fFr = some ⟨ocFr, odFr, .func (PySem.W.fnOf "_law_far" "_law_far" (defArgs sFar) (defBody sFar) (defScope sFar) .none kVFr dcFr pmFr anFr cdFr ctFr), slFr⟩) (cFr : PySem.W.codeIn K cdFr "_law_far" = true) (kFr : PySem.W.keepIn K (.ref fFr) = true)
    (aJ : PySem.W.nsIn K mainGlobals "_law_joined" = some (some (.ref fJ))) (lJ : K.lookup fJ = some ⟨ocJ, odJ, .func (PySem.W.fnOf "_law_joined" "_law_joined" (defArgs sJoi) (defBody sJoi) (defScope sJoi) .none kVJ dcJ pmJ anJ cdJ ctJ), slJ⟩) (cJ : PySem.W.codeIn K cdJ "_law_joined" = true) (kJ : PySem.W.keepIn K (.ref fJ) = true)
    (aNs : PySem.W.nsIn K mainGlobals "_law_nexts" = some (some (.ref fNs))) (lNs : K.lookup fNs = some ⟨ocNs, odNs, .func (PySem.W.fnOf "_law_nexts" "_law_nexts" (defArgs sNxs) (defBody sNxs) (defScope sNxs) .none kVNs dcNs pmNs anNs cdNs ctNs), slNs⟩) (cNs : PySem.W.codeIn K cdNs "_law_nexts" = true) (kNs : PySem.W.keepIn K (.ref fNs) = true)
    (aOr : PySem.W.nsIn K mainGlobals "_law_order" = some (some (.ref fOr))) (lOr : K.lookup fOr = some ⟨ocOr, odOr, .func (PySem.W.fnOf "_law_order" "_law_order" (defArgs sOrder) (defBody sOrder) (defScope sOrder) .none kVOr dcOr pmOr anOr cdOr ctOr), slOr⟩) (cOr : PySem.W.codeIn K cdOr "_law_order" = true) (kOr : PySem.W.keepIn K (.ref fOr) = true)
    (aO : PySem.W.nsIn K mainGlobals "own_place" = some (some (.ref fO))) (lO : K.lookup fO = some ⟨ocO, odO, .func (PySem.W.fnOf "own_place" "own_place" (defArgs sOwn) (defBody sOwn) (defScope sOwn) .none kVO dcO pmO anO cdO ctO), slO⟩) (cO : PySem.W.codeIn K cdO "own_place" = true) (kO : PySem.W.keepIn K (.ref fO) = true)
    (aTl : PySem.W.nsIn K mainGlobals "told" = some (some (.ref fTl))) (lTl : K.lookup fTl = some ⟨ocTl, odTl, .func (PySem.W.fnOf "told" "told" (defArgs sTold) (defBody sTold) (defScope sTold) .none kVTl dcTl pmTl anTl cdTl ctTl), slTl⟩) (cTl : PySem.W.codeIn K cdTl "told" = true) (kTl : PySem.W.keepIn K (.ref fTl) = true)
    (aHb : PySem.W.nsIn K mainGlobals "told_hub" = some (some (.ref fHb))) (lHb : K.lookup fHb = some ⟨ocHb, odHb, .func (PySem.W.fnOf "told_hub" "told_hub" (defArgs sHub) (defBody sHub) (defScope sHub) .none kVHb dcHb pmHb anHb cdHb ctHb), slHb⟩) (cHb : PySem.W.codeIn K cdHb "told_hub" = true) (kHb : PySem.W.keepIn K (.ref fHb) = true)
    (aSm : PySem.W.nsIn K mainGlobals "least_sum" = some (some (.ref fSm))) (lSm : K.lookup fSm = some ⟨ocSm, odSm, .func (PySem.W.fnOf "least_sum" "least_sum" (defArgs sSum) (defBody sSum) (defScope sSum) .none kVSm dcSm pmSm anSm cdSm ctSm), slSm⟩) (cSm : PySem.W.codeIn K cdSm "least_sum" = true) (kSm : PySem.W.keepIn K (.ref fSm) = true)
    (aE : PySem.W.nsIn K mainGlobals "entry_of" = some (some (.ref fE))) (lE : K.lookup fE = some ⟨ocE, odE, .func (PySem.W.fnOf "entry_of" "entry_of" (defArgs sEnt) (defBody sEnt) (defScope sEnt) .none kVE dcE pmE anE cdE ctE), slE⟩) (cE : PySem.W.codeIn K cdE "entry_of" = true) (kE : PySem.W.keepIn K (.ref fE) = true)
    (aSt : PySem.W.nsIn K mainGlobals "next_step" = some (some (.ref fSt))) (lSt : K.lookup fSt = some ⟨ocSt, odSt, .func (PySem.W.fnOf "next_step" "next_step" (defArgs sStep) (defBody sStep) (defScope sStep) .none kVSt dcSt pmSt anSt cdSt ctSt), slSt⟩) (cSt : PySem.W.codeIn K cdSt "next_step" = true) (kSt : PySem.W.keepIn K (.ref fSt) = true)
    (aRw : PySem.W.nsIn K mainGlobals "_law_row_web" = some (some (.ref fRw))) (lRw : K.lookup fRw = some ⟨ocRw, odRw, .func (PySem.W.fnOf "_law_row_web" "_law_row_web" (defArgs sRow) (defBody sRow) (defScope sRow) .none kVRw dcRw pmRw anRw cdRw ctRw), slRw⟩) (cRw : PySem.W.codeIn K cdRw "_law_row_web" = true) (kRw : PySem.W.keepIn K (.ref fRw) = true)
    (aOn : PySem.W.nsIn K mainGlobals "_law_on" = some (some (.ref fOn))) (lOn : K.lookup fOn = some ⟨ocOn, odOn, .func (PySem.W.fnOf "_law_on" "_law_on" (defArgs sOn) (defBody sOn) (defScope sOn) .none kVOn dcOn pmOn anOn cdOn ctOn), slOn⟩) (cOn : PySem.W.codeIn K cdOn "_law_on" = true) (kOn : PySem.W.keepIn K (.ref fOn) = true)
    (aPr : PySem.W.nsIn K mainGlobals "_law_pair_right" = some (some (.ref fPr))) (lPr : K.lookup fPr = some ⟨ocPr, odPr, .func (PySem.W.fnOf "_law_pair_right" "_law_pair_right" (defArgs sPr) (defBody sPr) (defScope sPr) .none kVPr dcPr pmPr anPr cdPr ctPr), slPr⟩) (cPr : PySem.W.codeIn K cdPr "_law_pair_right" = true) (kPr : PySem.W.keepIn K (.ref fPr) = true)
    (aHr : PySem.W.nsIn K mainGlobals "_law_hubs_right" = some (some (.ref fHr))) (lHr : K.lookup fHr = some ⟨ocHr, odHr, .func (PySem.W.fnOf "_law_hubs_right" "_law_hubs_right" (defArgs sHr) (defBody sHr) (defScope sHr) .none kVHr dcHr pmHr anHr cdHr ctHr), slHr⟩) (cHr : PySem.W.codeIn K cdHr "_law_hubs_right" = true) (kHr : PySem.W.keepIn K (.ref fHr) = true)
    (aRi : PySem.W.nsIn K mainGlobals "is_rising" = some (some (.ref fRi))) (lRi : K.lookup fRi = some ⟨ocRi, odRi, .func (PySem.W.fnOf "is_rising" "is_rising" (defArgs sRis) (defBody sRis) (defScope sRis) .none kVRi dcRi pmRi anRi cdRi ctRi), slRi⟩) (cRi : PySem.W.codeIn K cdRi "is_rising" = true) (kRi : PySem.W.keepIn K (.ref fRi) = true)
    (aE9 : PySem.W.nsIn K mainGlobals "is_entry" = some (some (.ref fE9))) (lE9 : K.lookup fE9 = some ⟨ocE9, odE9, .func (PySem.W.fnOf "is_entry" "is_entry" (defArgs sEnt9) (defBody sEnt9) (defScope sEnt9) .none kVE9 dcE9 pmE9 anE9 cdE9 ctE9), slE9⟩) (cE9 : PySem.W.codeIn K cdE9 "is_entry" = true) (kE9 : PySem.W.keepIn K (.ref fE9) = true)
    (aL9 : PySem.W.nsIn K mainGlobals "is_label" = some (some (.ref fL9))) (lL9 : K.lookup fL9 = some ⟨ocL9, odL9, .func (PySem.W.fnOf "is_label" "is_label" (defArgs sLab9) (defBody sLab9) (defScope sLab9) .none kVL9 dcL9 pmL9 anL9 cdL9 ctL9), slL9⟩) (cL9 : PySem.W.codeIn K cdL9 "is_label" = true) (kL9 : PySem.W.keepIn K (.ref fL9) = true)
    (aA9 : PySem.W.nsIn K mainGlobals "are_labels" = some (some (.ref fA9))) (lA9 : K.lookup fA9 = some ⟨ocA9, odA9, .func (PySem.W.fnOf "are_labels" "are_labels" (defArgs sLabs9) (defBody sLabs9) (defScope sLabs9) .none kVA9 dcA9 pmA9 anA9 cdA9 ctA9), slA9⟩) (cA9 : PySem.W.codeIn K cdA9 "are_labels" = true) (kA9 : PySem.W.keepIn K (.ref fA9) = true)
    (aZ : PySem.W.nsIn K mainGlobals "law" = some (some (.ref fZ))) (lZ : K.lookup fZ = some ⟨ocZ, odZ, .func (PySem.W.fnOf "law" "law" (defArgs sLaw) (defBody sLaw) (defScope sLaw) .none kVZ dcZ pmZ anZ cdZ ctZ), slZ⟩) (cZ : PySem.W.codeIn K cdZ "law" = true) (kZ : PySem.W.keepIn K (.ref fZ) = true)
    (z0 : PySem.W.nsIn K mainGlobals "len" = some none)
    (z1 : PySem.W.nsIn K mainGlobals "range" = some none)
    (z2 : PySem.W.nsIn K mainGlobals "tuple" = some none)
    (z3 : PySem.W.nsIn K mainGlobals "sorted" = some none)
    (z4 : PySem.W.nsIn K mainGlobals "min" = some none)
    (z5 : PySem.W.nsIn K mainGlobals "list" = some none)
    (z6 : PySem.W.nsIn K mainGlobals "isinstance" = some none)
    (z7 : PySem.W.nsIn K mainGlobals "int" = some none)
    (z8 : PySem.W.nsIn K mainGlobals "bool" = some none)
    (z9 : PySem.W.nsIn K mainGlobals "all" = some none)
    (z10 : PySem.W.nsIn K mainGlobals "set" = some none)
    (z11 : PySem.W.nsIn K mainGlobals "dict" = some none)
    (z12 : PySem.W.nsIn K mainGlobals "repr" = some none)
    (tN : PySem.W.tabIn K "nearest" = some (cc, PT)) (hN : PySem.W.codeHdIn K cc PT = true) (nT : PySem.W.noTabs K = true)
    : ∃ (fd : FuncData) (c P : Addr), PySem.W.tabIn K "nearest" = some (c, P) ∧ PySem.W.noTabs K = true ∧ (∀ (s : Shared) (v : Value), BindsTo s fd ⟨[v], []⟩ [("_law_script", v)]) ∧ ∀ base : Heap, K.In base → base.Ns mainGlobals mg → BmAt mg base → FnOk l.prog w K mg base CX0 7 fa fd ["_law_script"] (spLaw K P) := by
  have e := hfa.symm.trans (PySem.W.mg_of X G aZ)
  cases e
  have FTa := fun_mk (st := sTape) lTa cTa kTa
  have FD := fun_mk (st := sDraw) lD cD kD
  have FN := fun_mk (st := sN) lN cN kN
  have FW := fun_mk (st := sWeb) lW cW kW
  have FT := fun_mk (st := sTies) lT cT kT
  have FNe := funC_mk (st := sNear) lNe cNe kNe
  have FF := fun_mk (st := sFrom) lF cF kF
  have FLe := fun_mk (st := sLens) lLe cLe kLe
  have FBw := fun_mk (st := sBwr) lBw cBw kBw
  have FNb := fun_mk (st := sNbr) lNb cNb kNb
  have FNu := fun_mk (st := sNum) lNu cNu kNu
  have FWi := fun_mk (st := sWi) lWi cWi kWi
  have FPl := fun_mk (st := sPl) lPl cPl kPl
  have FTo := fun_mk (st := sTof) lTo cTo kTo
  have FIo := fun_mk (st := sOrd) lIo cIo kIo
  have FBy := fun_mk (st := sByo) lBy cBy kBy
  have FLb := fun_mk (st := sLbr) lLb cLb kLb
  have FIh := fun_mk (st := sIsh) lIh cIh kIh
  have FEb := fun_mk (st := sEbr) lEb cEb kEb
  have FA := fun_mk (st := sAdd) lA cA kA
  have FLs := fun_mk (st := sLes) lLs cLs kLs
  have FFr := fun_mk (st := sFar) lFr cFr kFr
  have FJ := fun_mk (st := sJoi) lJ cJ kJ
  have FNs := fun_mk (st := sNxs) lNs cNs kNs
  have FOr := fun_mk (st := sOrder) lOr cOr kOr
  have FO := fun_mk (st := sOwn) lO cO kO
  have FTl := fun_mk (st := sTold) lTl cTl kTl
  have FHb := fun_mk (st := sHub) lHb cHb kHb
  have FSm := fun_mk (st := sSum) lSm cSm kSm
  have FE := fun_mk (st := sEnt) lE cE kE
  have FSt := fun_mk (st := sStep) lSt cSt kSt
  have FRw := fun_mk (st := sRow) lRw cRw kRw
  have FOn := fun_mk (st := sOn) lOn cOn kOn
  have FPr := fun_mk (st := sPr) lPr cPr kPr
  have FHr := fun_mk (st := sHr) lHr cHr kHr
  have FRi := fun_mk (st := sRis) lRi cRi kRi
  have FE9 := fun_mk (st := sEnt9) lE9 cE9 kE9
  have FL9 := fun_mk (st := sLab9) lL9 cL9 kL9
  have FA9 := fun_mk (st := sLabs9) lA9 cA9 kA9
  have FZ := fun_mk (st := sLaw) lZ cZ kZ
  have bTa := FTa.binds (ps := ["_law_script"]) fun _ _ _ _ _ _ us hl => by obtain ⟨u0, rfl⟩ := usl1 hl; rfl
  have mTa := PySem.W.mg_of X G aTa
  have bD := FD.binds (ps := ["_law_tape_here", "_law_many"]) fun _ _ _ _ _ _ us hl => by obtain ⟨u0, u1, rfl⟩ := usl2 hl; rfl
  have mD := PySem.W.mg_of X G aD
  have bN := FN.binds (ps := ["_law_tape_here"]) fun _ _ _ _ _ _ us hl => by obtain ⟨u0, rfl⟩ := usl1 hl; rfl
  have mN := PySem.W.mg_of X G aN
  have bW := FW.binds (ps := ["_law_tape_here", "_law_n_here"]) fun _ _ _ _ _ _ us hl => by obtain ⟨u0, u1, rfl⟩ := usl2 hl; rfl
  have mW := PySem.W.mg_of X G aW
  have bT := FT.binds (ps := ["web", "place"]) fun _ _ _ _ _ _ us hl => by obtain ⟨u0, u1, rfl⟩ := usl2 hl; rfl
  have mT := PySem.W.mg_of X G aT
  have bNe := FNe.fn.binds (ps := ["waiting"]) fun _ _ _ _ _ _ us hl => by obtain ⟨u0, rfl⟩ := usl1 hl; rfl
  have mNe := PySem.W.mg_of X G aNe
  have bF := FF.binds (ps := ["web", "start"]) fun _ _ _ _ _ _ us hl => by obtain ⟨u0, u1, rfl⟩ := usl2 hl; rfl
  have mF := PySem.W.mg_of X G aF
  have bLe := FLe.binds (ps := ["web"]) fun _ _ _ _ _ _ us hl => by obtain ⟨u0, rfl⟩ := usl1 hl; rfl
  have mLe := PySem.W.mg_of X G aLe
  have bBw := FBw.binds (ps := ["here", "there", "other"]) fun _ _ _ _ _ _ us hl => by obtain ⟨u0, u1, u2, rfl⟩ := usl3 hl; rfl
  have mBw := PySem.W.mg_of X G aBw
  have bNb := FNb.binds (ps := ["web", "one", "there"]) fun _ _ _ _ _ _ us hl => by obtain ⟨u0, u1, u2, rfl⟩ := usl3 hl; rfl
  have mNb := PySem.W.mg_of X G aNb
  have bNu := FNu.binds (ps := ["thing"]) fun _ _ _ _ _ _ us hl => by obtain ⟨u0, rfl⟩ := usl1 hl; rfl
  have mNu := PySem.W.mg_of X G aNu
  have bWi := FWi.binds (ps := ["thing", "least", "most"]) fun _ _ _ _ _ _ us hl => by obtain ⟨u0, u1, u2, rfl⟩ := usl3 hl; rfl
  have bPl := FPl.binds (ps := ["n", "thing"]) fun _ _ _ _ _ _ us hl => by obtain ⟨u0, u1, rfl⟩ := usl2 hl; rfl
  have mWi := PySem.W.mg_of X G aWi
  have mPl := PySem.W.mg_of X G aPl
  have bTo := FTo.binds (ps := ["thing", "count"]) fun _ _ _ _ _ _ us hl => by obtain ⟨u0, u1, rfl⟩ := usl2 hl; rfl
  have mTo := PySem.W.mg_of X G aTo
  have bIo := FIo.binds (ps := ["web", "thing"]) fun _ _ _ _ _ _ us hl => by obtain ⟨u0, u1, rfl⟩ := usl2 hl; rfl
  have mIo := PySem.W.mg_of X G aIo
  have bBy := FBy.binds (ps := ["web", "order"]) fun _ _ _ _ _ _ us hl => by obtain ⟨u0, u1, rfl⟩ := usl2 hl; rfl
  have mBy := PySem.W.mg_of X G aBy
  have bLb := FLb.binds (ps := ["web", "rows", "ranks", "place"]) fun _ _ _ _ _ _ us hl => by obtain ⟨u0, u1, u2, u3, rfl⟩ := usl4 hl; rfl
  have mLb := PySem.W.mg_of X G aLb
  have bIh := FIh.binds (ps := ["rows", "ranks", "hub", "place"]) fun _ _ _ _ _ _ us hl => by obtain ⟨u0, u1, u2, u3, rfl⟩ := usl4 hl; rfl
  have mIh := PySem.W.mg_of X G aIh
  have bEb := FEb.binds (ps := ["web", "rows", "place", "hub"]) fun _ _ _ _ _ _ us hl => by obtain ⟨u0, u1, u2, u3, rfl⟩ := usl4 hl; rfl
  have mEb := PySem.W.mg_of X G aEb
  have bA := FA.binds (ps := ["_law_one", "_law_other"]) fun _ _ _ _ _ _ us hl => by obtain ⟨u0, u1, rfl⟩ := usl2 hl; rfl
  have mA := PySem.W.mg_of X G aA
  have bLs := FLs.binds (ps := ["_law_one", "_law_other"]) fun _ _ _ _ _ _ us hl => by obtain ⟨u0, u1, rfl⟩ := usl2 hl; rfl
  have mLs := PySem.W.mg_of X G aLs
  have bFr := FFr.binds (ps := ["_law_web_here"]) fun _ _ _ _ _ _ us hl => by obtain ⟨u0, rfl⟩ := usl1 hl; rfl
  have mFr := PySem.W.mg_of X G aFr
  have bJ := FJ.binds (ps := ["_law_web_here"]) fun _ _ _ _ _ _ us hl => by obtain ⟨u0, rfl⟩ := usl1 hl; rfl
  have mJ := PySem.W.mg_of X G aJ
  have bNs := FNs.binds (ps := ["_law_web_here", "_law_far_here", "_law_one", "_law_other"]) fun _ _ _ _ _ _ us hl => by obtain ⟨u0, u1, u2, u3, rfl⟩ := usl4 hl; rfl
  have mNs := PySem.W.mg_of X G aNs
  have bOr := FOr.binds (ps := ["_law_tape_here", "_law_n_here"]) fun _ _ _ _ _ _ us hl => by obtain ⟨u0, u1, rfl⟩ := usl2 hl; rfl
  have mOr := PySem.W.mg_of X G aOr
  have bO := FO.binds (ps := ["label"]) fun _ _ _ _ _ _ us hl => by obtain ⟨u0, rfl⟩ := usl1 hl; rfl
  have mO := PySem.W.mg_of X G aO
  have bTl := FTl.binds (ps := ["one", "other"]) fun _ _ _ _ _ _ us hl => by obtain ⟨u0, u1, rfl⟩ := usl2 hl; rfl
  have mTl := PySem.W.mg_of X G aTl
  have bHb := FHb.binds (ps := ["one", "other"]) fun _ _ _ _ _ _ us hl => by obtain ⟨u0, u1, rfl⟩ := usl2 hl; rfl
  have mHb := PySem.W.mg_of X G aHb
  have bSm := FSm.binds (ps := ["one", "other"]) fun _ _ _ _ _ _ us hl => by obtain ⟨u0, u1, rfl⟩ := usl2 hl; rfl
  have mSm := PySem.W.mg_of X G aSm
  have bE := FE.binds (ps := ["label", "hub"]) fun _ _ _ _ _ _ us hl => by obtain ⟨u0, u1, rfl⟩ := usl2 hl; rfl
  have mE := PySem.W.mg_of X G aE
  have bSt := FSt.binds (ps := ["one", "other"]) fun _ _ _ _ _ _ us hl => by obtain ⟨u0, u1, rfl⟩ := usl2 hl; rfl
  have mSt := PySem.W.mg_of X G aSt
  have bRw := FRw.binds (ps := ["_law_tape_here"]) fun _ _ _ _ _ _ us hl => by obtain ⟨u0, rfl⟩ := usl1 hl; rfl
  have mRw := PySem.W.mg_of X G aRw
  have bOn := FOn.binds (ps := ["_law_far_here", "_law_place", "_law_one", "_law_other"]) fun _ _ _ _ _ _ us hl => by obtain ⟨u0, u1, u2, u3, rfl⟩ := usl4 hl; rfl
  have mOn := PySem.W.mg_of X G aOn
  have bPr := FPr.binds (ps := ["_law_web_here", "_law_far_here", "_law_labels", "_law_one", "_law_other"]) fun _ _ _ _ _ _ us hl => by obtain ⟨u0, u1, u2, u3, u4, rfl⟩ := usl5 hl; rfl
  have mPr := PySem.W.mg_of X G aPr
  have bHr := FHr.binds (ps := ["_law_far_here", "_law_labels", "_law_order_here"]) fun _ _ _ _ _ _ us hl => by obtain ⟨u0, u1, u2, rfl⟩ := usl3 hl; rfl
  have mHr := PySem.W.mg_of X G aHr
  have bRi := FRi.binds (ps := ["things"]) fun _ _ _ _ _ _ us hl => by obtain ⟨u0, rfl⟩ := usl1 hl; rfl
  have mRi := PySem.W.mg_of X G aRi
  have bE9 := FE9.binds (ps := ["n", "thing"]) fun _ _ _ _ _ _ us hl => by obtain ⟨u0, u1, rfl⟩ := usl2 hl; rfl
  have mE9 := PySem.W.mg_of X G aE9
  have bL9 := FL9.binds (ps := ["n", "thing"]) fun _ _ _ _ _ _ us hl => by obtain ⟨u0, u1, rfl⟩ := usl2 hl; rfl
  have mL9 := PySem.W.mg_of X G aL9
  have bA9 := FA9.binds (ps := ["n", "thing"]) fun _ _ _ _ _ _ us hl => by obtain ⟨u0, u1, rfl⟩ := usl2 hl; rfl
  have mA9 := PySem.W.mg_of X G aA9
  have mb0 := PySem.W.mg_none_of X G z0
  have mb1 := PySem.W.mg_none_of X G z1
  have mb2 := PySem.W.mg_none_of X G z2
  have mb3 := PySem.W.mg_none_of X G z3
  have mb4 := PySem.W.mg_none_of X G z4
  have mb5 := PySem.W.mg_none_of X G z5
  have mb6 := PySem.W.mg_none_of X G z6
  have mb7 := PySem.W.mg_none_of X G z7
  have mb8 := PySem.W.mg_none_of X G z8
  have mb9 := PySem.W.mg_none_of X G z9
  have mb10 := PySem.W.mg_none_of X G z10
  have mb11 := PySem.W.mg_none_of X G z11
  have mb12 := PySem.W.mg_none_of X G z12
  exact ⟨PySem.W.fnOf "law" "law" (defArgs sLaw) (defBody sLaw) (defScope sLaw) .none kVZ dcZ pmZ anZ cdZ ctZ, cc, PT, tN, nT, fun s v => .of_eq rfl, fun base hb _ hbm => ok_law FZ (PySem.W.codeHd_of_K hb hN) hbm FTa bTa mTa FD bD mD FN bN mN FW bW mW FT bT mT FNe bNe mNe FF bF mF FLe bLe mLe FBw bBw mBw FNb bNb mNb FNu bNu mNu FWi bWi mWi FPl bPl mPl FTo bTo mTo FIo bIo mIo FBy bBy mBy FLb bLb mLb FIh bIh mIh FEb bEb mEb FA bA mA FLs bLs mLs FFr bFr mFr FJ bJ mJ FNs bNs mNs FOr bOr mOr FO bO mO FTl bTl mTl FHb bHb mHb FSm bSm mSm FE bE mE FSt bSt mSt FRw bRw mRw FOn bOn mOn FPr bPr mPr FHr bHr mHr FRi bRi mRi FE9 bE9 mE9 FL9 bL9 mL9 FA9 bA9 mA9 mb0 mb1 mb2 mb3 mb4 mb5 mb6 mb7 mb8 mb9 mb10 mb11 mb12⟩
theorem walk {l : PySem.W.OpenLaw} {q : Program} {loose : List Str} {XP : (Str → Option Value) → Heap → Prop} {YP : World → Heap → Prop} {d : DefRec} {K : Params → PySem.W.Frag} (hn : l.most = some 63) (hdf : d.params.defaults = []) (hrec : ∃ dn, (PyProof.Rows.recsOf q).find? (fun e => e.name == ("nearest" : Str)) = some dn)
    (hY : ∀ (w : World) (h : Heap), YP w h → (K w.params).In h)
    (F : ∀ (w : World) (mg : Str → Option Value) (fa : Addr) (h : Heap), (K w.params).In h → h.Ns mainGlobals mg → mg d.name = some (.ref fa) →
      ∃ (fd : FuncData) (c P : Addr), PySem.W.tabIn (K w.params) "nearest" = some (c, P) ∧ PySem.W.noTabs (K w.params) = true ∧ (∀ (s : Shared) (u : Value), BindsTo s fd ⟨[u], []⟩ [("_law_script", u)]) ∧ ∀ base : Heap, (K w.params).In base → base.Ns mainGlobals mg → BmAt mg base → FnOk l.prog w (K w.params) mg base CX0 7 fa fd ["_law_script"] (spLaw (K w.params) P)) :
    PySem.W.WalkO q loose XP YP l.row.toRowW d [] (fun f vs => PySem.call f vs) :=
  L2.walk_T (n := 63) (k := 7) (x := "_law_script") (tn := "nearest") (CX := CX0) (sp := spLaw) hn (by decide) hdf ⟨rfl, by decide, by decide, rfl⟩ hrec hY F (fun _ _ _ a ns hl hP hS => ⟨a, ns, rfl, hS, hl, hP, fun _ => rfl⟩) fun _ _ _ _ z => z
end K09
open PySem PySem.W PyProof.Rows
set_option maxRecDepth 100000 in
set_option maxHeartbeats 0 in
theorem PySem.Challenge.cw_labelways_k09_whole_labels_tell_lengths_holds : PySem.Challenge.rw_labelways_k09_whole_labels_tell_lengths.Holds := by
  w_on; o_law; k_head; (case hw => w_witness2)
  k_fill
  refine K09.walk (l := PySem.Challenge.rw_labelways_k09_whole_labels_tell_lengths) rfl rfl ?R (fun w h Y => PySem.W.km_in_of Y) ?F
  case R => exact ⟨_, rfl⟩
  case F =>
    intro w mg fa h KX G hmg
    refine' K09.all_mk (PT := 148) KX G hmg ?aTa ?lTa ?cTa ?kTa ?aD ?lD ?cD ?kD ?aN ?lN ?cN ?kN ?aW ?lW ?cW ?kW ?aT ?lT ?cT ?kT ?aNe ?lNe ?cNe ?kNe ?aF ?lF ?cF ?kF ?aLe ?lLe ?cLe ?kLe ?aBw ?lBw ?cBw ?kBw ?aNb ?lNb ?cNb ?kNb ?aNu ?lNu ?cNu ?kNu ?aWi ?lWi ?cWi ?kWi ?aPl ?lPl ?cPl ?kPl ?aTo ?lTo ?cTo ?kTo ?aIo ?lIo ?cIo ?kIo ?aBy ?lBy ?cBy ?kBy ?aLb ?lLb ?cLb ?kLb ?aIh ?lIh ?cIh ?kIh ?aEb ?lEb ?cEb ?kEb ?aA ?lA ?cA ?kA ?aLs ?lLs ?cLs ?kLs ?aFr ?lFr ?cFr ?kFr ?aJ ?lJ ?cJ ?kJ ?aNs ?lNs ?cNs ?kNs ?aOr ?lOr ?cOr ?kOr ?aO ?lO ?cO ?kO ?aTl ?lTl ?cTl ?kTl ?aHb ?lHb ?cHb ?kHb ?aSm ?lSm ?cSm ?kSm ?aE ?lE ?cE ?kE ?aSt ?lSt ?cSt ?kSt ?aRw ?lRw ?cRw ?kRw ?aOn ?lOn ?cOn ?kOn ?aPr ?lPr ?cPr ?kPr ?aHr ?lHr ?cHr ?kHr ?aRi ?lRi ?cRi ?kRi ?aE9 ?lE9 ?cE9 ?kE9 ?aL9 ?lL9 ?cL9 ?kL9 ?aA9 ?lA9 ?cA9 ?kA9 ?aZ ?lZ ?cZ ?kZ ?z0 ?z1 ?z2 ?z3 ?z4 ?z5 ?z6 ?z7 ?z8 ?z9 ?z10 ?z11 ?z12 ?tN ?hN ?nT
    (case aTa => k_is)
    (case lTa => k_is)
    (case cTa => k_is)
    (case kTa => k_is)
    (case aD => k_is)
    (case lD => k_is)
    (case cD => k_is)
    (case kD => k_is)
    (case aN => k_is)
    (case lN => k_is)
    (case cN => k_is)
    (case kN => k_is)
    (case aW => k_is)
    (case lW => k_is)
    (case cW => k_is)
    (case kW => k_is)
    (case aT => k_is)
    (case lT => k_is)
    (case cT => k_is)
    (case kT => k_is)
    (case aNe => k_is)
    (case lNe => k_is)
    (case cNe => k_is)
    (case kNe => k_is)
    (case aF => k_is)
    (case lF => k_is)
    (case cF => k_is)
    (case kF => k_is)
    (case aLe => k_is)
    (case lLe => k_is)
    (case cLe => k_is)
    (case kLe => k_is)
    (case aBw => k_is)
    (case lBw => k_is)
    (case cBw => k_is)
    (case kBw => k_is)
    (case aNb => k_is)
    (case lNb => k_is)
    (case cNb => k_is)
    (case kNb => k_is)
    (case aNu => k_is)
    (case lNu => k_is)
    (case cNu => k_is)
    (case kNu => k_is)
    (case aWi => k_is)
    (case aPl => k_is)
    (case lWi => k_is)
    (case lPl => k_is)
    (case cWi => k_is)
    (case cPl => k_is)
    (case kWi => k_is)
    (case kPl => k_is)
    (case aTo => k_is)
    (case lTo => k_is)
    (case cTo => k_is)
    (case kTo => k_is)
    (case aIo => k_is)
    (case lIo => k_is)
    (case cIo => k_is)
    (case kIo => k_is)
    (case aBy => k_is)
    (case lBy => k_is)
    (case cBy => k_is)
    (case kBy => k_is)
    (case aLb => k_is)
    (case lLb => k_is)
    (case cLb => k_is)
    (case kLb => k_is)
    (case aIh => k_is)
    (case lIh => k_is)
    (case cIh => k_is)
    (case kIh => k_is)
    (case aEb => k_is)
    (case lEb => k_is)
    (case cEb => k_is)
    (case kEb => k_is)
    (case aA => k_is)
    (case lA => k_is)
    (case cA => k_is)
    (case kA => k_is)
    (case aLs => k_is)
    (case lLs => k_is)
    (case cLs => k_is)
    (case kLs => k_is)
    (case aFr => k_is)
    (case lFr => k_is)
    (case cFr => k_is)
    (case kFr => k_is)
    (case aJ => k_is)
    (case lJ => k_is)
    (case cJ => k_is)
    (case kJ => k_is)
    (case aNs => k_is)
    (case lNs => k_is)
    (case cNs => k_is)
    (case kNs => k_is)
    (case aOr => k_is)
    (case lOr => k_is)
    (case cOr => k_is)
    (case kOr => k_is)
    (case aO => k_is)
    (case lO => k_is)
    (case cO => k_is)
    (case kO => k_is)
    (case aTl => k_is)
    (case lTl => k_is)
    (case cTl => k_is)
    (case kTl => k_is)
    (case aHb => k_is)
    (case lHb => k_is)
    (case cHb => k_is)
    (case kHb => k_is)
    (case aSm => k_is)
    (case lSm => k_is)
    (case cSm => k_is)
    (case kSm => k_is)
    (case aE => k_is)
    (case lE => k_is)
    (case cE => k_is)
    (case kE => k_is)
    (case aSt => k_is)
    (case lSt => k_is)
    (case cSt => k_is)
    (case kSt => k_is)
    (case aRw => k_is)
    (case lRw => k_is)
    (case cRw => k_is)
    (case kRw => k_is)
    (case aOn => k_is)
    (case lOn => k_is)
    (case cOn => k_is)
    (case kOn => k_is)
    (case aPr => k_is)
    (case lPr => k_is)
    (case cPr => k_is)
    (case kPr => k_is)
    (case aHr => k_is)
    (case lHr => k_is)
    (case cHr => k_is)
    (case kHr => k_is)
    (case aRi => k_is)
    (case lRi => k_is)
    (case cRi => k_is)
    (case kRi => k_is)
    (case aE9 => k_is)
    (case lE9 => k_is)
    (case cE9 => k_is)
    (case kE9 => k_is)
    (case aL9 => k_is)
    (case lL9 => k_is)
    (case cL9 => k_is)
    (case kL9 => k_is)
    (case aA9 => k_is)
    (case lA9 => k_is)
    (case cA9 => k_is)
    (case kA9 => k_is)
    (case aZ => k_is)
    (case lZ => k_is)
    (case cZ => k_is)
    (case kZ => k_is)
    (case z0 => k_is)
    (case z1 => k_is)
    (case z2 => k_is)
    (case z3 => k_is)
    (case z4 => k_is)
    (case z5 => k_is)
    (case z6 => k_is)
    (case z7 => k_is)
    (case z8 => k_is)
    (case z9 => k_is)
    (case z10 => k_is)
    (case z11 => k_is)
    (case z12 => k_is)
    (case tN => kernel_rfl)
    (case hN => kernel_rfl)
    (case nT => kernel_rfl)
